/- Own texts, packed: Q05. -/
import Derived.Test.YtboofamenpcnhaaGreatDoorV29
import Derived.Shelf.Spec.SlicesInsertGrow
namespace Go.Proofs.YtboofamenpcnhaaGreatDoor
set_option maxRecDepth 100000
open Go.RowKit
set_option linter.unusedVariables false
set_option linter.unusedSimpArgs false
/-- Two pieces, one behind the other. -/
theorem put2_take {c V D : List Value} {a b : Nat} (h : a + V.length = b) (fit : b + D.length ≤ c.length) : (put (put c b D) a V).take (b + D.length) = c.take a ++ V ++ D := by
  have l0 : (c.take b).length = b := by rw [List.length_take]; omega
  have la : (c.take a).length = a := by rw [List.length_take]; omega
  have e1 : (put c b D).take a = c.take a := by
    unfold put
    rw [List.append_assoc, List.take_append_of_le_length (by omega), List.take_take, Nat.min_eq_left (by omega)]
  have e2 : (put c b D).drop (a + V.length) = D ++ c.drop (b + D.length) := by
    unfold put
    rw [h, List.append_assoc, List.drop_append_of_le_length (by omega), List.drop_of_length_le (by omega), List.nil_append]
  show ((put c b D).take a ++ V ++ (put c b D).drop (a + V.length)).take _ = _
  rw [e1, e2, ← List.append_assoc, List.take_append_of_le_length (by simp [List.length_append]; omega), List.take_of_length_le (by simp [List.length_append]; omega)]
theorem put2_take' {c V D : List Value} {a b : Nat} (h : a + V.length = b) (fit : b + D.length ≤ c.length) : (put (put c a V) b D).take (b + D.length) = c.take a ++ V ++ D := by
  have la : (c.take a).length = a := by rw [List.length_take]; omega
  have e1 : (put c a V).take b = c.take a ++ V := by
    unfold put
    rw [List.take_append_of_le_length (by simp [List.length_append]; omega), List.take_of_length_le (by simp [List.length_append]; omega)]
  show ((put c a V).take b ++ D ++ (put c a V).drop (b + D.length)).take _ = _
  rw [e1, List.take_append_of_le_length (by simp [List.length_append]; omega), List.take_of_length_le (by simp [List.length_append]; omega)]
theorem put_take_le {c V : List Value} {a k : Nat} (h : k ≤ a) (fit : a ≤ c.length) : (put c a V).take k = c.take k := by
  unfold put
  rw [List.append_assoc, List.take_append_of_le_length (by rw [List.length_take]; omega), List.take_take, Nat.min_eq_left h]
theorem take_of_take {c f : List Value} {n a : Nat} (h : c.take n = f) (ha : a ≤ n) : c.take a = f.take a := by
  rw [← h, List.take_take, Nat.min_eq_left ha]
theorem get_of_take {c f : List Value} {n : Nat} (h : c.take n = f) (j : Nat) (u : Value) (hj : f[j]? = some u) : c[j]? = some u := by
  rw [← h, List.getElem?_take] at hj
  split at hj
  · exact hj
  · cases hj
theorem RowAt.heap {w W : World} {g : Nat} {c : List Value} (h : RowAt w g c) (e : W.heap = w.heap) : RowAt W g c := by unfold RowAt; rw [e]; exact h
/-- copy, the source a piece of a row. -/
theorem copy_from (w : World) (g o dLen dCap gs os sLen sCap : Nat) (c cs : List Value) (ty : TypeId) (hg : RowAt w g c)
    (hl : cs.length = Nat.min sLen dLen * 2) (hcs : ∀ j u, cs[j]? = some u → w.cell? ⟨gs, os + j, none⟩ = some u)
    (hfit : o + cs.length ≤ c.length) (h1 : ∀ v ∈ cs, v.oneCell' = true) :
    (Builtin.copy_ #[118, 118] ty #[.slice (some ⟨g, o, none⟩) dLen dCap, .slice (some ⟨gs, os, none⟩) sLen sCap]).run Tryz.prog w = .ok (goInt (Nat.min sLen dLen)) (w.setRow g (put c o cs).toArray) :=
  copy_row w g o dLen dCap sLen _ c cs ty hg (by simp [Builtin.lenOf]) (run_firstCells_some w 2 (Nat.min sLen dLen) ⟨gs, os, none⟩ sLen sCap cs hl (fun j u hj => by rw [Addr.add_lit]; exact hcs j u hj)) hfit h1
/-- A row whose head is these runs. -/
structure Holds (w : World) (g : Nat) (c : List Value) (L : List (Nat × Nat)) : Prop where
  row : RowAt w g c
  head : c.take (L.length * 2) = flat L
theorem Holds.heap {w W : World} {g : Nat} {c : List Value} {L : List (Nat × Nat)} (h : Holds w g c L) (e : W.heap = w.heap) : Holds W g c L := ⟨h.row.heap e, h.head⟩
theorem Holds.other {w : World} {g k : Nat} {c d : List Value} {L : List (Nat × Nat)} (h : Holds w k c L) (hk : k ≠ g) : Holds (w.setRow g d.toArray) k c L := ⟨h.row.other hk, h.head⟩
theorem Holds.turn {S : Nat → Prop} {w w' : World} {g : Nat} {c : List Value} {L : List (Nat × Nat)} (h : Holds w g c L) (t : Turn S w w') (hn : ¬ S g) : Holds w' g c L := ⟨h.row.turn t hn, h.head⟩
theorem Holds.len {w : World} {g : Nat} {c : List Value} {L : List (Nat × Nat)} (h : Holds w g c L) : L.length * 2 ≤ c.length := by
  have := congrArg List.length h.head
  rw [List.length_take, flat_len] at this
  omega
/-- copy of a row's runs, from one on. -/
theorem copy_runs {w : World} {g o dLen dCap gs i sCap : Nat} {c cv : List Value} {L : List (Nat × Nat)} (ty : TypeId) (hg : RowAt w g c) (hs : Holds w gs cv L) (sLen : Nat) (hle : min sLen dLen = L.length - i) (hi : i ≤ L.length) (hfit : o + (L.length - i) * 2 ≤ c.length) :
    (Builtin.copy_ #[118, 118] ty #[.slice (some ⟨g, o, none⟩) dLen dCap, .slice (some ⟨gs, i * 2, none⟩) sLen sCap]).run Tryz.prog w = .ok (goInt (L.length - i)) (w.setRow g (put c o ((flat L).drop (i * 2))).toArray) := by
  have hl : ((flat L).drop (i * 2)).length = (L.length - i) * 2 := by rw [List.length_drop, flat_len]; omega
  have := copy_from w g o dLen dCap gs (i * 2) sLen sCap c ((flat L).drop (i * 2)) ty hg (by rw [hl]; show _ = min _ _ * 2; rw [hle]) (fun j u hj => by rw [hs.row.cell]; rw [List.getElem?_drop] at hj; exact get_of_take hs.head _ u hj) (by rw [hl]; exact hfit) (fun v hv => flat_one L v (List.mem_of_mem_drop hv))
  have e : Nat.min sLen dLen = L.length - i := hle
  rw [this]; congr 2; rw [e]; omega
theorem copy_all {w : World} {g o dLen dCap gs sCap : Nat} {c cv : List Value} {L : List (Nat × Nat)} (ty : TypeId) (hg : RowAt w g c) (hs : Holds w gs cv L) (hle : L.length ≤ dLen) (hfit : o + L.length * 2 ≤ c.length) :
    (Builtin.copy_ #[118, 118] ty #[.slice (some ⟨g, o, none⟩) dLen dCap, .slice (some ⟨gs, 0, none⟩) L.length sCap]).run Tryz.prog w = .ok (goInt L.length) (w.setRow g (put c o (flat L)).toArray) := by
  have := copy_runs (w := w) (g := g) (o := o) (dLen := dLen) (dCap := dCap) (gs := gs) (i := 0) (sCap := sCap) (c := c) (cv := cv) (L := L) ty hg hs L.length (by omega) (Nat.zero_le _) (by omega)
  simpa using this
theorem overlaps_no (w : World) (a b : Addr) (la ca lb cb : Nat) (ka kb : Nat) (hne : a.block ≠ b.block) (hsa : w.shape? a.block = some (122, ka)) (hsb : w.shape? b.block = some (122, kb)) (hk : kb ≠ 0)
    (hfa : w.frozen? a = false) (hfe : w.frozen? { block := a.block, off := ka } = false) :
    (callFunc 112 #[.slice (some a) la ca, .slice (some b) lb cb]).run Tryz.prog w = .ok (.value (.bool false)) w := by
  rw [run_callFunc_extern Tryz.func112 (by kernel_rfl) (by kernel_rfl) (by kernel_rfl) (e := Extern.SlicesOverlaps.overlaps #[118, 118] #[4]) (by kernel_rfl),
    Lib.run_overlaps_apart w 118 4 122 Tryz.underlying118 2 (fun w => by obtain ⟨i, hi, h2, _, _⟩ := info43; simp [sizeOf, typeInfo, hi, h2]) a b la ca lb cb hne 122 122 ka kb hsa hsb hk hfa hfe]
  rfl
theorem overlaps_rows {w : World} {ga gb oa ob la ca lb cb : Nat} {c d : List Value} (ha : RowAt w ga c) (hb : RowAt w gb d) (hne : ga ≠ gb) (hd : 0 < d.length) :
    (callFunc 112 #[.slice (some ⟨ga, oa, none⟩) la ca, .slice (some ⟨gb, ob, none⟩) lb cb]).run Tryz.prog w = .ok (.value (.bool false)) w :=
  overlaps_no w _ _ la ca lb cb _ _ hne ha.shape hb.shape (by omega) (ha.frozen _) (ha.frozen _)
/-- append(s[:i], make(S, k)...) where there is no room: a new row. -/
theorem append_made (w : World) (g i sCap k : Nat) (c : List Value) (L : List (Nat × Nat)) (ty : TypeId) (hg : Holds w g c L) (hi : i ≤ L.length) (h0 : 0 < k) (hgr : sCap < i + k) (hb : i + k ≤ 100000) :
    ∃ cap W c1, i + k ≤ cap ∧ cap ≤ maxLen ∧ c1.length = cap * 2 ∧ c1.take (i * 2) = (flat L).take (i * 2) ∧ RowAt W w.heap.size c1 ∧ Turn (fun _ => False) w W ∧
      (Builtin.append_ #[118, 3] ty #[.slice (some ⟨g, 0, none⟩) i sCap, .int .i64 (k : Int)]).run Tryz.prog w = .ok (.slice (some ⟨w.heap.size, 0, none⟩) (i + k) cap) W := by
  have hl : ((flat L).take (i * 2)).length = i * 2 := by rw [List.length_take, flat_len]; omega
  obtain ⟨cap, r, h1, h2, h3, h4⟩ := append_make w g i sCap k ((flat L).take (i * 2)) ty hl (fun j u hj => by
    rw [Addr.add_lit, Nat.zero_add, hg.row.cell]
    rw [List.getElem?_take] at hj
    split at hj
    · exact get_of_take hg.head _ u hj
    · cases hj) h0 hgr hb
  refine ⟨cap, _, (flat L).take (i * 2) ++ r, h1, h2, ?_, ?_, ?_, ?_, h4⟩
  · rw [List.length_append, hl, h3]; omega
  · rw [List.take_append_of_le_length (by omega), List.take_of_length_le (by omega)]
  · unfold RowAt; show (w.heap.push _)[w.heap.size]? = _; simp
  · exact ((Turn.refl _ w).drew).alloc _
theorem repl_post {w W : World} {v : Value} {g cap n i j : Nat} {c : List Value} {L vs L' : List (Nat × Nat)} (hr : RowAt W g c) (hcm : cap ≤ maxLen) (hcl : c.length = cap * 2)
    (hL : L' = L.take i ++ vs ++ L.drop j) (hn : L'.length = n) (hnc : n ≤ cap) (ht : c.take (n * 2) = (flat L).take (i * 2) ++ flat vs ++ (flat L).drop (j * 2)) (hf : Fresh w v (.slice (some ⟨g, 0, none⟩) n cap)) (hT : Turn (fun k => v.ownBlock = some k) w W) :
    ReplPost w v L' (.returned (.slice (some ⟨g, 0, none⟩) n cap)) W := by
  refine ⟨_, rfl, ?_, hf, hT⟩
  rw [hn]
  refine own_of hr hnc hcm hcl ?_ (by rw [flat_len, hn])
  rw [ht, hL, flat_app, flat_app, flat_take, flat_drop]
set_option maxHeartbeats 4000000 in
set_option maxRecDepth 100000 in
/-- Between others, where there is room. -/
theorem insert_shift (w : World) (g cap vb vc i : Nat) (L vs : List (Nat × Nat)) (c cv : List Value) (hg : Holds w g c L) (hcm : cap ≤ maxLen) (hcs : c.length = cap * 2)
    (hvb : Holds w vb cv vs) (hne : vb ≠ g) (hm : 0 < vs.length) (hb : L.length + vs.length ≤ 10000) (hi : i < L.length) (hroom : L.length + vs.length ≤ cap) :
    Calls Tryz.prog 111 #[.slice (some ⟨g, 0, none⟩) L.length cap, .int .i64 (i : Int), .slice (some ⟨vb, 0, none⟩) vs.length vc] w (ReplPost w (.slice (some ⟨g, 0, none⟩) L.length cap) (L.take i ++ vs ++ L.drop i)) := by
  obtain ⟨c1, hc1⟩ : ∃ c1, c1 = put c ((i + vs.length) * 2) ((flat L).drop (i * 2)) := ⟨_, rfl⟩
  have hR1 := copy_runs (w := w.drew) (g := g) (o := (i + vs.length) * 2) (dLen := L.length + vs.length - (i + vs.length)) (dCap := cap - (i + vs.length)) (gs := g) (i := i) (sCap := cap - i) (L := L) 3 (hg.row.heap rfl) (hg.heap rfl) (L.length + vs.length - i) (by omega) (by omega) (by omega)
  rw [← hc1] at hR1
  have hdl : ((flat L).drop (i * 2)).length = (L.length - i) * 2 := by rw [List.length_drop, flat_len]; omega
  have l1 : c1.length = c.length := by rw [hc1]; exact put_length (by rw [hdl]; omega)
  obtain ⟨W1, hW1⟩ : ∃ W1, W1 = w.drew.setRow g c1.toArray := ⟨_, rfl⟩
  have hg1 : RowAt W1 g c1 := by rw [hW1]; exact (hg.row.heap (W := w.drew) rfl).set c1
  have hv1 : Holds W1 vb cv vs := by rw [hW1]; exact (hvb.heap (W := w.drew) rfl).other hne
  have hT1 : Turn (fun k => (Value.slice (some ⟨g, 0, none⟩) L.length cap).ownBlock = some k) w W1 := by rw [hW1]; exact turn_setRowE (Turn.refl _ w).drew (fun _ => by rfl) _
  rw [← hW1] at hR1
  obtain ⟨c2, hc2⟩ : ∃ c2, c2 = put c1 (i * 2) (flat vs) := ⟨_, rfl⟩
  have hR2 := copy_all (w := W1) (g := g) (o := i * 2) (dLen := L.length + vs.length - i) (dCap := cap - i) (gs := vb) (sCap := vc) 3 hg1 hv1 (by omega) (by rw [l1]; omega)
  rw [← hc2] at hR2
  have l2 : c2.length = c.length := by rw [hc2, put_length (by rw [flat_len, l1]; omega), l1]
  have hov : (callFunc 112 #[.slice (some ⟨vb, 0, none⟩) vs.length vc, .slice (some ⟨g, (i + vs.length) * 2, none⟩) (L.length + vs.length - (i + vs.length)) (cap - (i + vs.length))]).run Tryz.prog w = .ok (.value (.bool false)) w := overlaps_rows hvb.row hg.row hne (by omega)
  have ht2 : c2.take ((L.length + vs.length) * 2) = (flat L).take (i * 2) ++ flat vs ++ (flat L).drop (i * 2) := by
    have := put2_take (c := c) (V := flat vs) (D := (flat L).drop (i * 2)) (a := i * 2) (b := (i + vs.length) * 2) (by rw [flat_len]; omega) (by rw [hdl]; omega)
    rw [hdl, ← hc1, ← hc2] at this
    rw [show (L.length + vs.length) * 2 = (i + vs.length) * 2 + (L.length - i) * 2 by omega, this, take_of_take hg.head (by omega)]
  have hLL : (L.take i ++ vs ++ L.drop i).length = L.length + vs.length := by simp; omega
  have hg0 := hg.row
  obtain ⟨LL, HL⟩ : ∃ LL, LL = L.take i ++ vs ++ L.drop i := ⟨_, rfl⟩
  rw [← HL] at hLL ⊢
  clear hc1 hc2 hW1 hdl
  obtain ⟨n, hnn⟩ : ∃ n, L.length = n := ⟨_, rfl⟩
  obtain ⟨m, hmm⟩ : ∃ m, vs.length = m := ⟨_, rfl⟩
  have HG := Lib.hid hg
  have HV := Lib.hid hvb
  clear hg hvb hv1
  rw [hnn] at hb hi hroom hR1 hR2 hov ht2 hT1 hLL ⊢
  rw [hmm] at hm hb hroom hR1 hR2 hov ht2 hLL ⊢
  have HN := Lib.hid hnn
  have HM := Lib.hid hmm
  have H2 := Lib.hid ht2
  have H3 := Lib.hid HL
  have H4 := Lib.hid hLL
  clear hnn hmm ht2 HL hLL
  have e1 : decide ((m : Int) = 0) = false := decide_eq_false (by omega)
  have e2 : decide ((i : Int) = (n : Int)) = false := decide_eq_false (by omega)
  have hw1 : IntKind.i64.wrap ((i : Int) + (m : Int)) = (i : Int) + (m : Int) := by rw [IntKind.wrap_i64]; omega
  have hb1 : (0 : Int) ≤ (i : Int) + (m : Int) := by omega
  have hin : i ≤ n := by omega
  have htn : ((i : Int) + (m : Int)).toNat = i + m := by omega
  have hb2 : ¬ (cap = i + m) := by omega
  have hb3 : (i : Int) ≤ (n : Int) + (m : Int) := by omega
  have hb4 : ¬ (cap = i) := by omega
  have hc63 : cap ≤ 9223372036854775807 := by simp only [maxLen] at hcm; omega
  have hz3 : ¬ ((cap : Int) < (n : Int) + (m : Int)) := by omega
  go_enter Tryz.func111, Tryz.ntmps111
  go_wp2
  go_region
  go_wp2
  go_ret
  exact repl_post (hg1.set c2) hcm (by omega) H3 H4 (by omega) H2 (.inl rfl) (turn_setRowE hT1 (fun _ => rfl) _)
set_option maxHeartbeats 4000000 in
set_option maxRecDepth 100000 in
/-- Between others, where there is no room. -/
theorem insert_grow (w : World) (g cap vb vc i : Nat) (L vs : List (Nat × Nat)) (c cv : List Value) (hg : Holds w g c L) (hn : L.length ≤ cap) (hcm : cap ≤ maxLen)
    (hvb : Holds w vb cv vs) (hm : 0 < vs.length) (hb : L.length + vs.length ≤ 10000) (hi : i < L.length) (hroom : cap < L.length + vs.length) :
    Calls Tryz.prog 111 #[.slice (some ⟨g, 0, none⟩) L.length cap, .int .i64 (i : Int), .slice (some ⟨vb, 0, none⟩) vs.length vc] w (ReplPost w (.slice (some ⟨g, 0, none⟩) L.length cap) (L.take i ++ vs ++ L.drop i)) := by
  obtain ⟨cap', W1, c1, h1, h2, h3, h4, hg1, hT0, hR0⟩ := append_made w g i cap (L.length + vs.length - i) c L 118 hg (by omega) (by omega) (by omega) (by omega)
  have hgl : g < w.heap.size := hg.row.lt
  have hvl : vb < w.heap.size := hvb.row.lt
  obtain ⟨G, hG⟩ : ∃ G, w.heap.size = G := ⟨_, rfl⟩
  rw [hG] at hg1 hR0 hgl hvl
  rw [show i + (L.length + vs.length - i) = L.length + vs.length by omega] at h1 hR0
  rw [show ((L.length + vs.length - i : Nat) : Int) = (L.length : Int) + (vs.length : Int) - (i : Int) by omega] at hR0
  have hgo : Holds W1 g c L := hg.turn hT0 id
  have hvo : Holds W1 vb cv vs := hvb.turn hT0 id
  obtain ⟨c2, hc2⟩ : ∃ c2, c2 = put c1 (i * 2) (flat vs) := ⟨_, rfl⟩
  have hR2 := copy_all (w := W1) (g := G) (o := i * 2) (dLen := L.length + vs.length - i) (dCap := cap' - i) (gs := vb) (sCap := vc) 3 hg1 hvo (by omega) (by omega)
  rw [← hc2] at hR2
  have l2 : c2.length = c1.length := by rw [hc2, put_length (by rw [flat_len]; omega)]
  obtain ⟨W2, hW2⟩ : ∃ W2, W2 = W1.setRow G c2.toArray := ⟨_, rfl⟩
  have hg2 : RowAt W2 G c2 := by rw [hW2]; exact hg1.set c2
  have hgo2 : Holds W2 g c L := by rw [hW2]; exact hgo.other (by omega)
  have hT2 : Turn (fun k => (Value.slice (some ⟨g, 0, none⟩) L.length cap).ownBlock = some k) w W2 := by rw [hW2]; exact turn_setRowE (hT0.mono (fun _ _ h => h.elim)) (fun h => by omega) _
  rw [← hW2] at hR2
  obtain ⟨c3, hc3⟩ : ∃ c3, c3 = put c2 ((i + vs.length) * 2) ((flat L).drop (i * 2)) := ⟨_, rfl⟩
  have hR3 := copy_runs (w := W2.drew) (g := G) (o := (i + vs.length) * 2) (dLen := L.length + vs.length - (i + vs.length)) (dCap := cap' - (i + vs.length)) (gs := g) (i := i) (sCap := cap - i) (L := L) 3 (hg2.heap rfl) (hgo2.heap rfl) (L.length - i) (by omega) (by omega) (by omega)
  rw [← hc3] at hR3
  have hdl : ((flat L).drop (i * 2)).length = (L.length - i) * 2 := by rw [List.length_drop, flat_len]; omega
  have l3 : c3.length = c1.length := by rw [hc3, put_length (by rw [hdl]; omega), l2]
  have ht3 : c3.take ((L.length + vs.length) * 2) = (flat L).take (i * 2) ++ flat vs ++ (flat L).drop (i * 2) := by
    have := put2_take' (c := c1) (V := flat vs) (D := (flat L).drop (i * 2)) (a := i * 2) (b := (i + vs.length) * 2) (by rw [flat_len]; omega) (by rw [hdl]; omega)
    rw [hdl, ← hc2, ← hc3] at this
    rw [show (L.length + vs.length) * 2 = (i + vs.length) * 2 + (L.length - i) * 2 by omega, this, h4]
  have hLL : (L.take i ++ vs ++ L.drop i).length = L.length + vs.length := by simp; omega
  obtain ⟨LL, HL⟩ : ∃ LL, LL = L.take i ++ vs ++ L.drop i := ⟨_, rfl⟩
  rw [← HL] at hLL ⊢
  clear hc2 hc3 hW2 hdl h4
  obtain ⟨n, hnn⟩ : ∃ n, L.length = n := ⟨_, rfl⟩
  obtain ⟨m, hmm⟩ : ∃ m, vs.length = m := ⟨_, rfl⟩
  have HG := Lib.hid hg
  have HV := Lib.hid hvb
  have HS := Lib.hid hG
  clear hg hvb hvo hgo hgo2 hG
  rw [hnn] at hb hi hroom hn hR0 hR2 hR3 ht3 hT2 hLL h1 ⊢
  rw [hmm] at hm hb hroom hR0 hR2 hR3 ht3 hLL h1 ⊢
  have HN := Lib.hid hnn
  have HM := Lib.hid hmm
  have H2 := Lib.hid ht3
  have H3 := Lib.hid HL
  have H4 := Lib.hid hLL
  clear hnn hmm ht3 HL hLL
  have e1 : decide ((m : Int) = 0) = false := decide_eq_false (by omega)
  have e2 : decide ((i : Int) = (n : Int)) = false := decide_eq_false (by omega)
  have hw1 : IntKind.i64.wrap ((i : Int) + (m : Int)) = (i : Int) + (m : Int) := by rw [IntKind.wrap_i64]; omega
  have hb1 : (0 : Int) ≤ (i : Int) + (m : Int) := by omega
  have hin : i ≤ n := by omega
  have htn : ((i : Int) + (m : Int)).toNat = i + m := by omega
  have hb2 : ¬ (cap' = i + m) := by omega
  have hb3 : (i : Int) ≤ (n : Int) + (m : Int) := by omega
  have hb4 : ¬ (cap' = i) := by omega
  have hb5 : ¬ (cap = i) := by omega
  have hb6 : (i : Int) ≤ (n : Int) := by omega
  have hc63 : cap ≤ 9223372036854775807 := by simp only [maxLen] at hcm; omega
  have hc64 : cap' ≤ 9223372036854775807 := by simp only [maxLen] at h2; omega
  have hz3 : ((cap : Int) < (n : Int) + (m : Int)) := by omega
  go_enter Tryz.func111, Tryz.ntmps111
  go_wp2_with (at_builtin; refine Lib.wpList_append_run _ rfl _ _ _ _ rfl _ _ rfl rfl _ _ hR0 ?_)
  go_region
  go_wp2
  go_ret
  exact repl_post (RowAt.set (hg2.heap (W := W2.drew) rfl) c3) h2 (by omega) H3 H4 (by omega) H2 (.inr ⟨_, rfl, Nat.le_of_eq HS⟩) (turn_setRowE hT2.drew (fun h => by have : w.heap.size = G := HS; omega) _)
/-- All of slices.Insert. -/
theorem insert_any (w : World) (v x : Value) (i : Nat) (L vs : List (Nat × Nat)) (hv : w.ownsRow 0 122 2 v L.length (flat L)) (hx : w.ownsRow 0 122 2 x vs.length (flat vs)) (hap : ∀ k, x.ownBlock = some k → v.ownBlock ≠ some k)
    (hm : 0 < vs.length) (hb : L.length + vs.length ≤ 10000) (hi : i ≤ L.length) : Calls Tryz.prog 111 #[v, .int .i64 (i : Int), x] w (ReplPost w v (L.take i ++ vs ++ L.drop i)) := by
  by_cases e : i = L.length
  · subst e
    rw [List.take_of_length_le (Nat.le_refl _), List.drop_of_length_le (Nat.le_refl _), List.append_nil]
    exact insert_end w v x L vs hv hx hm hb
  · rcases hv.2 with ⟨rfl, h0⟩ | ⟨g, cap, cur, rfl, _, hg, hnc, hcm, hcs, ht⟩
    · omega
    rcases hx.2 with ⟨rfl, h0⟩ | ⟨vb, vc, vcur, rfl, _, hvg, hnc', hcm', hcs', hvt⟩
    · omega
    have hne : vb ≠ g := by
      rintro rfl
      exact hap _ rfl rfl
    have h1 : Holds w g cur.toList L := ⟨by unfold RowAt; simpa using hg, ht⟩
    have h2 : Holds w vb vcur.toList vs := ⟨by unfold RowAt; simpa using hvg, hvt⟩
    by_cases hr : L.length + vs.length ≤ cap
    · exact insert_shift w g cap vb vc i L vs _ _ h1 hcm (by simpa using hcs) h2 hne hm hb (by omega) hr
    · exact insert_grow w g cap vb vc i L vs _ _ h1 hnc hcm h2 hm hb (by omega) (by omega)
end Go.Proofs.YtboofamenpcnhaaGreatDoor
namespace Go.Proofs.YtboofamenpcnhaaGreatDoor
set_option maxRecDepth 100000
open Go.RowKit
set_option linter.unusedVariables false
set_option linter.unusedSimpArgs false
theorem drop_len (L : List (Nat × Nat)) (j : Nat) (hj : j ≤ L.length) : ((flat L).drop (j * 2)).length = (L.length - j) * 2 := by rw [List.length_drop, flat_len]; omega
/-- append of runs where there is no room: a new row. -/
theorem append_grown (w : World) (g i sCap vb vc : Nat) (c cv : List Value) (L vs : List (Nat × Nat)) (ty : TypeId) (hg : Holds w g c L) (hv : Holds w vb cv vs) (hi : i ≤ L.length) (hgr : sCap < i + vs.length) (hb : i + vs.length ≤ 100000) :
    ∃ cap W c1, i + vs.length ≤ cap ∧ cap ≤ maxLen ∧ c1.length = cap * 2 ∧ c1.take ((i + vs.length) * 2) = (flat L).take (i * 2) ++ flat vs ∧ RowAt W w.heap.size c1 ∧ Turn (fun _ => False) w W ∧
      (Builtin.append_ #[118, 118] ty #[.slice (some ⟨g, 0, none⟩) i sCap, .slice (some ⟨vb, 0, none⟩) vs.length vc]).run Tryz.prog w = .ok (.slice (some ⟨w.heap.size, 0, none⟩) (i + vs.length) cap) W := by
  have hl : ((flat L).take (i * 2)).length = i * 2 := by rw [List.length_take, flat_len]; omega
  obtain ⟨i0, hi0, h2, h3, hz⟩ := info43
  have h := run_append_grow (P := Tryz.prog) w 118 ty 122 i0 _ Tryz.underlying118 hi0 hz ⟨g, 0, none⟩ i sCap ((flat L).take (i * 2)) (by rw [h2, hl]) (fun j u hj => by
    rw [Addr.add_lit, Nat.zero_add, hg.row.cell]
    rw [List.getElem?_take] at hj
    split at hj
    · exact get_of_take hg.head _ u hj
    · cases hj) ⟨vb, 0, none⟩ vs.length vc (flat vs) (by rw [h2, flat_len]) (fun j u hj => by rw [Addr.add_lit, Nat.zero_add, hv.row.cell]; exact get_of_take hv.head _ u hj) hgr (by omega) (by rw [h3]; exact growslice_fits (by omega) (by omega))
  have hge := grownCap_ge w (i + vs.length) sCap 122
  have hbk : (Builtin.zeroCells (#[.int .i64 0, .int .i64 0] : Array Value) (grownCap w (i + vs.length) sCap 122 - (i + vs.length))).toList.length = (grownCap w (i + vs.length) sCap 122 - (i + vs.length)) * 2 := by rw [zeros_list, List.length_replicate]
  refine ⟨_, _, ((flat L).take (i * 2) ++ flat vs ++ (Builtin.zeroCells (#[.int .i64 0, .int .i64 0] : Array Value) (grownCap w (i + vs.length) sCap 122 - (i + vs.length))).toList), hge, grownCap_le_maxLen w _ _ _ (by simp only [maxLen]; omega), ?_, ?_, ?_, ?_, h⟩
  · rw [List.length_append, List.length_append, hl, flat_len, hbk]; omega
  · rw [List.take_append_of_le_length (by rw [List.length_append, hl, flat_len]; omega), List.take_of_length_le (by rw [List.length_append, hl, flat_len]; omega)]
  · unfold RowAt; show (w.heap.push _)[w.heap.size]? = _; simp [Value.cells]
  · exact ((Turn.refl _ w).drew).alloc _
set_option maxHeartbeats 4000000 in
set_option maxRecDepth 100000 in
/-- Up to the end, where there is room. -/
theorem repl_end (w : World) (g cap i : Nat) (x : Value) (L vs : List (Nat × Nat)) (c : List Value) (hg : Holds w g c L) (hcm : cap ≤ maxLen) (hcs : c.length = cap * 2) (hn : L.length ≤ cap)
    (hx : w.ownsRow 0 122 2 x vs.length (flat vs)) (hb : L.length + vs.length ≤ 10000) (hi : i < L.length) (hroom : i + vs.length ≤ cap) :
    Calls Tryz.prog 101 #[.slice (some ⟨g, 0, none⟩) L.length cap, .int .i64 (i : Int), .int .i64 (L.length : Int), x] w (ReplPost w (.slice (some ⟨g, 0, none⟩) L.length cap) (L.take i ++ vs ++ L.drop L.length)) := by
  obtain ⟨c1, hc1⟩ : ∃ c1, c1 = put c (i * 2) (flat vs) := ⟨_, rfl⟩
  have hR1 := append_room w g i cap vs.length x c (flat vs) 118 hg.row (src_of hx) hroom (by rw [flat_len]; omega)
  rw [← hc1] at hR1
  have l1 : c1.length = c.length := by rw [hc1]; exact put_length (by rw [flat_len]; omega)
  have ht1 : c1.take ((i + vs.length) * 2) = (flat L).take (i * 2) ++ flat vs := by
    have := put2_take (c := c) (V := flat vs) (D := []) (a := i * 2) (b := (i + vs.length) * 2) (by rw [flat_len]; omega) (by simp; omega)
    rw [put_nil] at this
    simp only [List.length_nil, Nat.add_zero, List.append_nil] at this
    rw [hc1, this, take_of_take hg.head (by omega)]
  obtain ⟨W1, hW1⟩ : ∃ W1, W1 = w.setRow g c1.toArray := ⟨_, rfl⟩
  have hg1 : RowAt W1 g c1 := by rw [hW1]; exact hg.row.set c1
  have hT1 : Turn (fun k => (Value.slice (some ⟨g, 0, none⟩) L.length cap).ownBlock = some k) w W1 := by rw [hW1]; exact turn_setRowE (Turn.refl _ w) (fun _ => by rfl) _
  rw [← hW1] at hR1
  have hLL : (L.take i ++ vs ++ L.drop L.length).length = i + vs.length := by simp; omega
  have hd0 : (flat L).drop (L.length * 2) = [] := List.drop_of_length_le (by rw [flat_len]; omega)
  obtain ⟨LL, HL⟩ : ∃ LL, LL = L.take i ++ vs ++ L.drop L.length := ⟨_, rfl⟩
  rw [← HL] at hLL ⊢
  obtain ⟨c2, hc2⟩ : ∃ c2, c2 = put c1 ((i + vs.length) * 2) (List.replicate ((L.length - (i + vs.length)) * 2) (.int .i64 0)) := ⟨_, rfl⟩
  have hR2 : i + vs.length < L.length → (Builtin.clear_ #[118] 0 #[.slice (some ⟨g, (i + vs.length) * 2, none⟩) (L.length - (i + vs.length)) (cap - (i + vs.length))]).run Tryz.prog W1 = .ok (.tuple #[]) (W1.setRow g c2.toArray) := fun h => by
    rw [hc2]
    exact clear_row W1 g _ _ _ c1 0 hg1 (by omega) (by omega)
  have l2 : i + vs.length < L.length → c2.length = c1.length ∧ c2.take ((i + vs.length) * 2) = c1.take ((i + vs.length) * 2) := fun h => by
    rw [hc2]
    exact ⟨put_length (by rw [List.length_replicate]; omega), put_take_le (Nat.le_refl _) (by omega)⟩
  clear hc1 hc2 hW1
  obtain ⟨n, hnn⟩ : ∃ n, L.length = n := ⟨_, rfl⟩
  obtain ⟨m, hmm⟩ : ∃ m, vs.length = m := ⟨_, rfl⟩
  have HG := Lib.hid hg
  clear hg
  rw [hnn] at hb hi hn hR2 l2 hT1 hd0 HL ⊢
  rw [hmm] at hb hroom hR1 hR2 ht1 hLL l2
  have HX := Lib.hid hx
  have H2 := Lib.hid ht1
  have H3 := Lib.hid HL
  have H4 := Lib.hid hLL
  have H5 := Lib.hid hd0
  have L2 := Lib.hid l2
  have HR2 := Lib.hid hR2
  clear hnn hmm ht1 HL hLL hx hd0 l2 hR2
  have e2 : decide ((i : Int) = (n : Int)) = false := decide_eq_false (by omega)
  have hin : i ≤ n := by omega
  have hc63 : cap ≤ 9223372036854775807 := by simp only [maxLen] at hcm; omega
  go_enter Tryz.func101, Tryz.ntmps101
  by_cases hlt : i + m < n
  · have hR2 := HR2 hlt
    have e3 : decide ((i : Int) + (m : Int) < (n : Int)) = true := decide_eq_true (by omega)
    go_wp2_with (at_builtin; refine Lib.wpList_append_run _ rfl _ _ _ _ rfl _ _ rfl rfl _ _ hR1 ?_)
    go_ret
    refine repl_post (hg1.set c2) hcm ?_ H3 H4 (by omega) ?_ (.inl rfl) (turn_setRowE hT1 (fun _ => by rfl) _)
    · rw [(L2 hlt).1]; omega
    · rw [(L2 hlt).2, show (flat L).drop (n * 2) = [] from H5, List.append_nil]; exact H2
  · have e3 : decide ((i : Int) + (m : Int) < (n : Int)) = false := decide_eq_false (by omega)
    go_wp2_with (at_builtin; refine Lib.wpList_append_run _ rfl _ _ _ _ rfl _ _ rfl rfl _ _ hR1 ?_)
    go_ret
    refine repl_post hg1 hcm (by omega) H3 H4 (by omega) ?_ (.inl rfl) hT1
    rw [show (flat L).drop (n * 2) = [] from H5, List.append_nil]; exact H2
set_option maxHeartbeats 4000000 in
set_option maxRecDepth 100000 in
/-- Up to the end, where there is no room. -/
theorem repl_end_grow (w : World) (g cap i vb vc : Nat) (L vs : List (Nat × Nat)) (c cv : List Value) (hg : Holds w g c L) (hcm : cap ≤ maxLen) (hn : L.length ≤ cap)
    (hx : Holds w vb cv vs) (hb : L.length + vs.length ≤ 10000) (hi : i < L.length) (hroom : cap < i + vs.length) :
    Calls Tryz.prog 101 #[.slice (some ⟨g, 0, none⟩) L.length cap, .int .i64 (i : Int), .int .i64 (L.length : Int), .slice (some ⟨vb, 0, none⟩) vs.length vc] w (ReplPost w (.slice (some ⟨g, 0, none⟩) L.length cap) (L.take i ++ vs ++ L.drop L.length)) := by
  obtain ⟨cap', W1, c1, h1, h2, h3, h4, hg1, hT0, hR1⟩ := append_grown w g i cap vb vc c cv L vs 118 hg hx (by omega) hroom (by omega)
  have hLL : (L.take i ++ vs ++ L.drop L.length).length = i + vs.length := by simp; omega
  have hd0 : (flat L).drop (L.length * 2) = [] := List.drop_of_length_le (by rw [flat_len]; omega)
  obtain ⟨LL, HL⟩ : ∃ LL, LL = L.take i ++ vs ++ L.drop L.length := ⟨_, rfl⟩
  rw [← HL] at hLL ⊢
  obtain ⟨G, hG⟩ : ∃ G, w.heap.size = G := ⟨_, rfl⟩
  rw [hG] at hg1 hR1
  obtain ⟨n, hnn⟩ : ∃ n, L.length = n := ⟨_, rfl⟩
  obtain ⟨m, hmm⟩ : ∃ m, vs.length = m := ⟨_, rfl⟩
  have HG := Lib.hid hg
  clear hg
  rw [hnn] at hb hi hn hd0 HL ⊢
  rw [hmm] at hb hroom hR1 h4 hLL h1 ⊢
  have HX := Lib.hid hx
  have H2 := Lib.hid h4
  have H3 := Lib.hid HL
  have H4 := Lib.hid hLL
  have H5 := Lib.hid hd0
  have HS := Lib.hid hG
  clear hnn hmm h4 HL hLL hx hd0 hG
  have e2 : decide ((i : Int) = (n : Int)) = false := decide_eq_false (by omega)
  have hin : i ≤ n := by omega
  have hc63 : cap ≤ 9223372036854775807 := by simp only [maxLen] at hcm; omega
  have e3 : decide ((i : Int) + (m : Int) < (n : Int)) = false := decide_eq_false (by omega)
  go_enter Tryz.func101, Tryz.ntmps101
  go_wp2_with (at_builtin; refine Lib.wpList_append_run _ rfl _ _ _ _ rfl _ _ rfl rfl _ _ hR1 ?_)
  go_ret
  refine repl_post hg1 h2 (by omega) H3 H4 (by omega) ?_ (.inr ⟨_, rfl, Nat.le_of_eq HS⟩) (hT0.mono (fun _ _ h => h.elim))
  rw [show (flat L).drop (n * 2) = [] from H5, List.append_nil]; exact H2
end Go.Proofs.YtboofamenpcnhaaGreatDoor
namespace Go.Proofs.YtboofamenpcnhaaGreatDoor
set_option maxRecDepth 100000
open Go.RowKit
set_option linter.unusedVariables false
set_option linter.unusedSimpArgs false
set_option maxHeartbeats 4000000 in
set_option maxRecDepth 100000 in
/-- No more than goes out comes in. -/
theorem repl_less (w : World) (g cap i j vc : Nat) (ob : Option Addr) (L vs : List (Nat × Nat)) (c : List Value) (hg : Holds w g c L) (hcm : cap ≤ maxLen) (hcs : c.length = cap * 2) (hn : L.length ≤ cap)
    (hR1 : ∀ (dCap : Nat), (Builtin.copy_ #[118, 118] 3 #[.slice (some ⟨g, i * 2, none⟩) (i + vs.length + (L.length - j) - i) dCap, .slice ob vs.length vc]).run Tryz.prog w.drew = .ok (goInt vs.length) (w.drew.setRow g (put c (i * 2) (flat vs)).toArray))
    (hb : L.length + vs.length ≤ 10000) (hij : i < j) (hj : j < L.length) (hle : i + vs.length ≤ j) :
    Calls Tryz.prog 101 #[.slice (some ⟨g, 0, none⟩) L.length cap, .int .i64 (i : Int), .int .i64 (j : Int), .slice ob vs.length vc] w (ReplPost w (.slice (some ⟨g, 0, none⟩) L.length cap) (L.take i ++ vs ++ L.drop j)) := by
  have hLL : (L.take i ++ vs ++ L.drop j).length = i + vs.length + (L.length - j) := by simp; omega
  obtain ⟨LL, HL⟩ : ∃ LL, LL = L.take i ++ vs ++ L.drop j := ⟨_, rfl⟩
  rw [← HL] at hLL ⊢
  have hdl := drop_len L j (by omega)
  obtain ⟨c1, hc1⟩ : ∃ c1, c1 = put c (i * 2) (flat vs) := ⟨_, rfl⟩
  have hR1 := hR1 (cap - i)
  rw [← hc1] at hR1
  have l1 : c1.length = c.length := by rw [hc1]; exact put_length (by rw [flat_len]; omega)
  obtain ⟨W1, hW1⟩ : ∃ W1, W1 = w.drew.setRow g c1.toArray := ⟨_, rfl⟩
  have hg1 : RowAt W1 g c1 := by rw [hW1]; exact (hg.row.heap (W := w.drew) rfl).set c1
  have hT1 : Turn (fun k => (Value.slice (some ⟨g, 0, none⟩) L.length cap).ownBlock = some k) w W1 := by rw [hW1]; exact turn_setRowE (Turn.refl _ w).drew (fun _ => by rfl) _
  rw [← hW1] at hR1
  obtain ⟨c2, hc2⟩ : ∃ c2, c2 = put c1 ((i + vs.length) * 2) ((flat L).drop (j * 2)) := ⟨_, rfl⟩
  have hgc : ∀ k u, ((flat L).drop (j * 2))[k]? = some u → c1[j * 2 + k]? = some u := fun k u hk => by
    rw [List.getElem?_drop] at hk
    rw [hc1, put_get (by rw [flat_len]; omega), if_neg (by omega), if_neg (by rw [flat_len]; omega)]
    exact get_of_take hg.head _ u hk
  have hR2 := copy_from W1.drew g ((i + vs.length) * 2) (i + vs.length + (L.length - j) - (i + vs.length)) (cap - (i + vs.length)) g (j * 2) (L.length - j) (cap - j) c1 ((flat L).drop (j * 2)) 3 (hg1.heap rfl) (by rw [hdl]; show _ = min _ _ * 2; omega)
    (fun k u hk => by rw [(hg1.heap (W := W1.drew) rfl).cell]; exact hgc k u hk) (by rw [hdl]; omega) (fun v hv => flat_one L v (List.mem_of_mem_drop hv))
  rw [← hc2] at hR2
  have l2 : c2.length = c.length := by rw [hc2, put_length (by rw [hdl]; omega), l1]
  obtain ⟨W2, hW2⟩ : ∃ W2, W2 = W1.drew.setRow g c2.toArray := ⟨_, rfl⟩
  have hg2 : RowAt W2 g c2 := by rw [hW2]; exact (hg1.heap (W := W1.drew) rfl).set c2
  have hT2 : Turn (fun k => (Value.slice (some ⟨g, 0, none⟩) L.length cap).ownBlock = some k) w W2 := by rw [hW2]; exact turn_setRowE hT1.drew (fun _ => by rfl) _
  rw [← hW2] at hR2
  have ht2 : c2.take ((i + vs.length + (L.length - j)) * 2) = (flat L).take (i * 2) ++ flat vs ++ (flat L).drop (j * 2) := by
    have := put2_take' (c := c) (V := flat vs) (D := (flat L).drop (j * 2)) (a := i * 2) (b := (i + vs.length) * 2) (by rw [flat_len]; omega) (by rw [hdl]; omega)
    rw [hdl, ← hc1, ← hc2] at this
    rw [show (i + vs.length + (L.length - j)) * 2 = (i + vs.length) * 2 + (L.length - j) * 2 by omega, this, take_of_take hg.head (by omega)]
  obtain ⟨c3, hc3⟩ : ∃ c3, c3 = put c2 ((i + vs.length + (L.length - j)) * 2) (List.replicate ((L.length - (i + vs.length + (L.length - j))) * 2) (.int .i64 0)) := ⟨_, rfl⟩
  have hR3 : i + vs.length + (L.length - j) < L.length → (Builtin.clear_ #[118] 0 #[.slice (some ⟨g, (i + vs.length + (L.length - j)) * 2, none⟩) (L.length - (i + vs.length + (L.length - j))) (cap - (i + vs.length + (L.length - j)))]).run Tryz.prog W2 = .ok (.tuple #[]) (W2.setRow g c3.toArray) := fun h => by
    rw [hc3]
    exact clear_row W2 g _ _ _ c2 0 hg2 (by omega) (by omega)
  have l3 : i + vs.length + (L.length - j) < L.length → c3.length = c2.length ∧ c3.take ((i + vs.length + (L.length - j)) * 2) = c2.take ((i + vs.length + (L.length - j)) * 2) := fun h => by
    rw [hc3]
    exact ⟨put_length (by rw [List.length_replicate]; omega), put_take_le (Nat.le_refl _) (by omega)⟩
  clear hc1 hc2 hc3 hW1 hW2 hdl hgc
  obtain ⟨n, hnn⟩ : ∃ n, L.length = n := ⟨_, rfl⟩
  obtain ⟨m, hmm⟩ : ∃ m, vs.length = m := ⟨_, rfl⟩
  have HG := Lib.hid hg
  clear hg
  rw [hnn] at hb hj hn hR1 hR2 hR3 l3 hT1 hT2 ht2 hLL ⊢
  rw [hmm] at hb hle hR1 hR2 hR3 l3 ht2 hLL ⊢
  obtain ⟨tot, htot⟩ : ∃ tot, tot = i + m + (n - j) := ⟨_, rfl⟩
  rw [← htot] at hR1 hR2 hR3 l3 ht2 hLL
  have hmin : Nat.min (n - j) (tot - (i + m)) = n - j := by show min _ _ = _; omega
  rw [hmin] at hR2
  have hw4 : IntKind.i64.wrap ((i : Int) + (m : Int) + ((n - j : Nat) : Int)) = (tot : Int) := by rw [IntKind.wrap_i64]; omega
  have hw5 : IntKind.i64.wrap ((i : Int) + (m : Int) + ((n : Int) - (j : Int))) = (tot : Int) := by rw [IntKind.wrap_i64]; omega
  have e5 : decide ((i : Int) + (m : Int) ≤ (j : Int)) = true := decide_eq_true (by omega)
  have e6 : decide ((cap : Int) < (tot : Int)) = false := decide_eq_false (by omega)
  have htc : tot ≤ n := by omega
  have him : i + m ≤ tot := by omega
  have hb6 : ¬ (cap = i + m) := by omega
  have HT := Lib.hid htot
  have H2 := Lib.hid ht2
  have H3 := Lib.hid HL
  have H4 := Lib.hid hLL
  have L3 := Lib.hid l3
  have HR3 := Lib.hid hR3
  clear hnn hmm ht2 HL hLL l3 hR3 hmin
  have e2 : decide ((i : Int) = (j : Int)) = false := decide_eq_false (by omega)
  have e4 : decide ((j : Int) = (n : Int)) = false := decide_eq_false (by omega)
  have hin : i ≤ n := by omega
  have hjn : j ≤ n := by omega
  have hjI : (j : Int) ≤ (n : Int) := by omega
  have hiI : (i : Int) ≤ (n : Int) := by omega
  have hijI : (i : Int) ≤ (j : Int) := by omega
  have nj : ((n - j : Nat) : Int) = (n : Int) - (j : Int) := by omega
  have NJ := Lib.hid nj
  clear nj
  have hw1 : IntKind.i64.wrap ((i : Int) + (m : Int)) = (i : Int) + (m : Int) := by rw [IntKind.wrap_i64]; omega
  -- : IntKind.i64.wrap ((i : Int) + (m : Int) + ((n - j : Nat) : Int)) = (i : Int) + (m : Int) + ((n - j : Nat) : Int) := by rw [IntKind.wrap_i64]; omega
  -- : IntKind.i64.wrap ((i : Int) + (m : Int) + ((n : Int) - (j : Int))) = ((i + m + (n - j) : Nat) : Int) := by rw [IntKind.wrap_i64]; omega
  have hb1 : (0 : Int) ≤ (i : Int) + (m : Int) := by omega
  have htn : ((i : Int) + (m : Int)).toNat = i + m := by omega
  have hb4 : ¬ (cap = i) := by omega
  have hb5 : ¬ (cap = j) := by omega
  have hz1 : decide (((n : Int) = 0)) = false := decide_eq_false (by omega)
  have hc63 : cap ≤ 9223372036854775807 := by simp only [maxLen] at hcm; omega
  clear htot
  go_enter Tryz.func101, Tryz.ntmps101
  go_wp2
  go_region
  by_cases hlt : tot < n
  · have hR3 := HR3 hlt
    go_wp2
    go_region
    go_wp2
    go_ret
    refine repl_post (hg2.set c3) hcm ?_ H3 H4 (by omega) ?_ (.inl rfl) (turn_setRowE hT2 (fun _ => by rfl) _)
    · rw [(L3 hlt).1]; omega
    · rw [(L3 hlt).2]; exact H2
  · obtain rfl : tot = n := by omega
    have hRc : ∀ a nc, (Builtin.clear_ #[118] 0 #[.slice a 0 nc]).run Tryz.prog W2 = .ok (.tuple #[]) W2 := fun a nc => clear_none W2 a nc 0
    by_cases hcn : cap = tot
    · subst hcn
      go_wp2
      go_region
      go_wp2
      go_ret
      exact repl_post hg2 hcm (by omega) H3 H4 (by omega) H2 (.inl rfl) hT2
    · go_wp2
      go_region
      go_wp2
      go_ret
      exact repl_post hg2 hcm (by omega) H3 H4 (by omega) H2 (.inl rfl) hT2
end Go.Proofs.YtboofamenpcnhaaGreatDoor
namespace Go.Proofs.YtboofamenpcnhaaGreatDoor
set_option maxRecDepth 100000
open Go.RowKit
set_option linter.unusedVariables false
set_option linter.unusedSimpArgs false
set_option maxHeartbeats 4000000 in
set_option maxRecDepth 100000 in
/-- More than goes out comes in, and there is room. -/
theorem repl_more (w : World) (g cap i j vb vc : Nat) (L vs : List (Nat × Nat)) (c cv : List Value) (hg : Holds w g c L) (hcm : cap ≤ maxLen) (hcs : c.length = cap * 2) (hn : L.length ≤ cap)
    (hv : Holds w vb cv vs) (hne : vb ≠ g) (hb : L.length + vs.length ≤ 10000) (hij : i < j) (hj : j < L.length) (hle : j < i + vs.length) (hroom : i + vs.length + (L.length - j) ≤ cap) :
    Calls Tryz.prog 101 #[.slice (some ⟨g, 0, none⟩) L.length cap, .int .i64 (i : Int), .int .i64 (j : Int), .slice (some ⟨vb, 0, none⟩) vs.length vc] w (ReplPost w (.slice (some ⟨g, 0, none⟩) L.length cap) (L.take i ++ vs ++ L.drop j)) := by
  have hLL : (L.take i ++ vs ++ L.drop j).length = i + vs.length + (L.length - j) := by simp; omega
  obtain ⟨LL, HL⟩ : ∃ LL, LL = L.take i ++ vs ++ L.drop j := ⟨_, rfl⟩
  rw [← HL] at hLL ⊢
  have hdl := drop_len L j (by omega)
  obtain ⟨c1, hc1⟩ : ∃ c1, c1 = put c ((i + vs.length) * 2) ((flat L).drop (j * 2)) := ⟨_, rfl⟩
  have hov : (callFunc 112 #[.slice (some ⟨g, (i + vs.length) * 2, none⟩) (i + vs.length + (L.length - j) - (i + vs.length)) (cap - (i + vs.length)), .slice (some ⟨vb, 0, none⟩) vs.length vc]).run Tryz.prog w.drew = .ok (.value (.bool false)) w.drew :=
    overlaps_rows (hg.row.heap rfl) (hv.row.heap rfl) (fun e => hne e.symm) (by have := hv.len; omega)
  have hR1 := copy_runs (w := w.drew.drew) (g := g) (o := (i + vs.length) * 2) (dLen := i + vs.length + (L.length - j) - (i + vs.length)) (dCap := cap - (i + vs.length)) (gs := g) (i := j) (sCap := cap - j) (L := L) 3 (hg.row.heap rfl) (hg.heap rfl) (L.length - j) (by omega) (by omega) (by omega)
  rw [← hc1] at hR1
  have l1 : c1.length = c.length := by rw [hc1]; exact put_length (by rw [hdl]; omega)
  obtain ⟨W1, hW1⟩ : ∃ W1, W1 = w.drew.drew.setRow g c1.toArray := ⟨_, rfl⟩
  have hg1 : RowAt W1 g c1 := by rw [hW1]; exact (hg.row.heap (W := w.drew.drew) rfl).set c1
  have hv1 : Holds W1 vb cv vs := by rw [hW1]; exact (hv.heap (W := w.drew.drew) rfl).other hne
  have hT1 : Turn (fun k => (Value.slice (some ⟨g, 0, none⟩) L.length cap).ownBlock = some k) w W1 := by rw [hW1]; exact turn_setRowE (Turn.refl _ w).drew.drew (fun _ => by rfl) _
  rw [← hW1] at hR1
  obtain ⟨c2, hc2⟩ : ∃ c2, c2 = put c1 (i * 2) (flat vs) := ⟨_, rfl⟩
  have hR2 := copy_all (w := W1) (g := g) (o := i * 2) (dLen := i + vs.length + (L.length - j) - i) (dCap := cap - i) (gs := vb) (sCap := vc) 3 hg1 hv1 (by omega) (by rw [l1]; omega)
  rw [← hc2] at hR2
  have l2 : c2.length = c.length := by rw [hc2, put_length (by rw [flat_len, l1]; omega), l1]
  have ht2 : c2.take ((i + vs.length + (L.length - j)) * 2) = (flat L).take (i * 2) ++ flat vs ++ (flat L).drop (j * 2) := by
    have := put2_take (c := c) (V := flat vs) (D := (flat L).drop (j * 2)) (a := i * 2) (b := (i + vs.length) * 2) (by rw [flat_len]; omega) (by rw [hdl]; omega)
    rw [hdl, ← hc1, ← hc2] at this
    rw [show (i + vs.length + (L.length - j)) * 2 = (i + vs.length) * 2 + (L.length - j) * 2 by omega, this, take_of_take hg.head (by omega)]
  clear hc1 hc2 hW1 hdl
  obtain ⟨n, hnn⟩ : ∃ n, L.length = n := ⟨_, rfl⟩
  obtain ⟨m, hmm⟩ : ∃ m, vs.length = m := ⟨_, rfl⟩
  have HG := Lib.hid hg
  have HV := Lib.hid hv
  clear hg hv hv1
  rw [hnn] at hb hj hn hov hR1 hR2 hT1 ht2 hLL hroom ⊢
  rw [hmm] at hb hle hov hR1 hR2 ht2 hLL hroom ⊢
  obtain ⟨tot, htot⟩ : ∃ tot, tot = i + m + (n - j) := ⟨_, rfl⟩
  rw [← htot] at hov hR1 hR2 ht2 hLL hroom
  have hw4 : IntKind.i64.wrap ((i : Int) + (m : Int) + ((n - j : Nat) : Int)) = (tot : Int) := by rw [IntKind.wrap_i64]; omega
  have hw5 : IntKind.i64.wrap ((i : Int) + (m : Int) + ((n : Int) - (j : Int))) = (tot : Int) := by rw [IntKind.wrap_i64]; omega
  have e5 : decide ((i : Int) + (m : Int) ≤ (j : Int)) = false := decide_eq_false (by omega)
  have e6 : decide ((cap : Int) < (tot : Int)) = false := decide_eq_false (by omega)
  have him : i + m ≤ tot := by omega
  have hb6 : ¬ (cap = i + m) := by omega
  have HT := Lib.hid htot
  have H2 := Lib.hid ht2
  have H3 := Lib.hid HL
  have H4 := Lib.hid hLL
  clear hnn hmm ht2 HL hLL
  have e2 : decide ((i : Int) = (j : Int)) = false := decide_eq_false (by omega)
  have e4 : decide ((j : Int) = (n : Int)) = false := decide_eq_false (by omega)
  have hin : i ≤ n := by omega
  have hjn : j ≤ n := by omega
  have hjI : (j : Int) ≤ (n : Int) := by omega
  have hiI : (i : Int) ≤ (n : Int) := by omega
  have hijI : (i : Int) ≤ (j : Int) := by omega
  have nj : ((n - j : Nat) : Int) = (n : Int) - (j : Int) := by omega
  have NJ := Lib.hid nj
  clear nj
  have hw1 : IntKind.i64.wrap ((i : Int) + (m : Int)) = (i : Int) + (m : Int) := by rw [IntKind.wrap_i64]; omega
  -- : IntKind.i64.wrap ((i : Int) + (m : Int) + ((n - j : Nat) : Int)) = (i : Int) + (m : Int) + ((n - j : Nat) : Int) := by rw [IntKind.wrap_i64]; omega
  -- : IntKind.i64.wrap ((i : Int) + (m : Int) + ((n : Int) - (j : Int))) = ((i + m + (n - j) : Nat) : Int) := by rw [IntKind.wrap_i64]; omega
  have hb1 : (0 : Int) ≤ (i : Int) + (m : Int) := by omega
  have htn : ((i : Int) + (m : Int)).toNat = i + m := by omega
  have hb4 : ¬ (cap = i) := by omega
  have hb5 : ¬ (cap = j) := by omega
  have hz1 : decide (((n : Int) = 0)) = false := decide_eq_false (by omega)
  have hc63 : cap ≤ 9223372036854775807 := by simp only [maxLen] at hcm; omega
  have htn2 : tot ≤ 9223372036854775807 := by omega
  clear htot
  go_enter Tryz.func101, Tryz.ntmps101
  go_wp2
  go_region
  go_wp2
  go_region
  go_wp2
  go_ret
  exact repl_post (hg1.set c2) hcm (by omega) H3 H4 (by omega) H2 (.inl rfl) (turn_setRowE hT1 (fun _ => by rfl) _)
set_option maxHeartbeats 4000000 in
set_option maxRecDepth 100000 in
/-- More than goes out comes in, and there is no room. -/
theorem repl_grow (w : World) (g cap i j vb vc : Nat) (L vs : List (Nat × Nat)) (c cv : List Value) (hg : Holds w g c L) (hcm : cap ≤ maxLen) (hn : L.length ≤ cap)
    (hv : Holds w vb cv vs) (hb : L.length + vs.length ≤ 10000) (hij : i < j) (hj : j < L.length) (hroom : cap < i + vs.length + (L.length - j)) :
    Calls Tryz.prog 101 #[.slice (some ⟨g, 0, none⟩) L.length cap, .int .i64 (i : Int), .int .i64 (j : Int), .slice (some ⟨vb, 0, none⟩) vs.length vc] w (ReplPost w (.slice (some ⟨g, 0, none⟩) L.length cap) (L.take i ++ vs ++ L.drop j)) := by
  have hLL : (L.take i ++ vs ++ L.drop j).length = i + vs.length + (L.length - j) := by simp; omega
  obtain ⟨LL, HL⟩ : ∃ LL, LL = L.take i ++ vs ++ L.drop j := ⟨_, rfl⟩
  rw [← HL] at hLL ⊢
  have hdl := drop_len L j (by omega)
  obtain ⟨cap', W1, c1, h1, h2, h3, h4, hg1, hT0, hR0⟩ := append_made w.drew g i cap (vs.length + (L.length - j)) c L 118 (hg.heap rfl) (by omega) (by omega) (by omega) (by omega)
  have hT0 : Turn (fun _ => False) w W1 := hT0.of_drew
  have hgl : g < w.heap.size := hg.row.lt
  have hvl : vb < w.heap.size := hv.row.lt
  obtain ⟨G, hG⟩ : ∃ G, w.heap.size = G := ⟨_, rfl⟩
  have hG' : w.drew.heap.size = G := hG
  rw [hG'] at hg1 hR0
  rw [hG] at hgl hvl
  rw [← Nat.add_assoc] at h1 hR0
  have hgo : Holds W1 g c L := hg.turn hT0 id
  have hvo : Holds W1 vb cv vs := hv.turn hT0 id
  obtain ⟨c2, hc2⟩ : ∃ c2, c2 = put c1 (i * 2) (flat vs) := ⟨_, rfl⟩
  have hR2 := copy_all (w := W1) (g := G) (o := i * 2) (dLen := i + vs.length + (L.length - j) - i) (dCap := cap' - i) (gs := vb) (sCap := vc) 3 hg1 hvo (by omega) (by omega)
  rw [← hc2] at hR2
  have l2 : c2.length = c1.length := by rw [hc2, put_length (by rw [flat_len]; omega)]
  obtain ⟨W2, hW2⟩ : ∃ W2, W2 = W1.setRow G c2.toArray := ⟨_, rfl⟩
  have hg2 : RowAt W2 G c2 := by rw [hW2]; exact hg1.set c2
  have hgo2 : Holds W2 g c L := by rw [hW2]; exact hgo.other (by omega)
  have hT2 : Turn (fun k => (Value.slice (some ⟨g, 0, none⟩) L.length cap).ownBlock = some k) w W2 := by rw [hW2]; exact turn_setRowE (hT0.mono (fun _ _ h => h.elim)) (fun h => by omega) _
  rw [← hW2] at hR2
  obtain ⟨c3, hc3⟩ : ∃ c3, c3 = put c2 ((i + vs.length) * 2) ((flat L).drop (j * 2)) := ⟨_, rfl⟩
  have hR3 := copy_runs (w := W2.drew) (g := G) (o := (i + vs.length) * 2) (dLen := i + vs.length + (L.length - j) - (i + vs.length)) (dCap := cap' - (i + vs.length)) (gs := g) (i := j) (sCap := cap - j) (L := L) 3 (hg2.heap rfl) (hgo2.heap rfl) (L.length - j) (by omega) (by omega) (by omega)
  rw [← hc3] at hR3
  have l3 : c3.length = c1.length := by rw [hc3, put_length (by rw [hdl]; omega), l2]
  have ht3 : c3.take ((i + vs.length + (L.length - j)) * 2) = (flat L).take (i * 2) ++ flat vs ++ (flat L).drop (j * 2) := by
    have := put2_take' (c := c1) (V := flat vs) (D := (flat L).drop (j * 2)) (a := i * 2) (b := (i + vs.length) * 2) (by rw [flat_len]; omega) (by rw [hdl]; omega)
    rw [hdl, ← hc2, ← hc3] at this
    rw [show (i + vs.length + (L.length - j)) * 2 = (i + vs.length) * 2 + (L.length - j) * 2 by omega, this, h4]
  clear hc2 hc3 hW2 hdl h4
  obtain ⟨n, hnn⟩ : ∃ n, L.length = n := ⟨_, rfl⟩
  obtain ⟨m, hmm⟩ : ∃ m, vs.length = m := ⟨_, rfl⟩
  have HG := Lib.hid hg
  have HV := Lib.hid hv
  have HS := Lib.hid hG
  clear hg hv hvo hgo hgo2 hG hG'
  rw [hnn] at hb hj hn hR0 hR2 hR3 hT2 ht3 hLL hroom h1 ⊢
  rw [hmm] at hb hR0 hR2 hR3 ht3 hLL hroom h1 ⊢
  have hmj : j < i + m := by omega
  obtain ⟨tot, htot⟩ : ∃ tot, tot = i + m + (n - j) := ⟨_, rfl⟩
  rw [← htot] at hR0 hR2 hR3 ht3 hLL hroom h1
  rw [show ((m + (n - j) : Nat) : Int) = (tot : Int) - (i : Int) by omega] at hR0
  have hw4 : IntKind.i64.wrap ((i : Int) + (m : Int) + ((n - j : Nat) : Int)) = (tot : Int) := by rw [IntKind.wrap_i64]; omega
  have hw5 : IntKind.i64.wrap ((i : Int) + (m : Int) + ((n : Int) - (j : Int))) = (tot : Int) := by rw [IntKind.wrap_i64]; omega
  have e6 : decide ((cap : Int) < (tot : Int)) = true := decide_eq_true (by omega)
  have him : i + m ≤ tot := by omega
  have hb7 : ¬ (cap' = i + m) := by omega
  have hb8 : ¬ (cap' = i) := by omega
  have hc64 : cap' ≤ 9223372036854775807 := by simp only [maxLen] at h2; omega
  have HT := Lib.hid htot
  have H2 := Lib.hid ht3
  have H3 := Lib.hid HL
  have H4 := Lib.hid hLL
  clear hnn hmm ht3 HL hLL
  have e2 : decide ((i : Int) = (j : Int)) = false := decide_eq_false (by omega)
  have e4 : decide ((j : Int) = (n : Int)) = false := decide_eq_false (by omega)
  have hin : i ≤ n := by omega
  have hjn : j ≤ n := by omega
  have hjI : (j : Int) ≤ (n : Int) := by omega
  have hiI : (i : Int) ≤ (n : Int) := by omega
  have hijI : (i : Int) ≤ (j : Int) := by omega
  have nj : ((n - j : Nat) : Int) = (n : Int) - (j : Int) := by omega
  have NJ := Lib.hid nj
  clear nj
  have hw1 : IntKind.i64.wrap ((i : Int) + (m : Int)) = (i : Int) + (m : Int) := by rw [IntKind.wrap_i64]; omega
  -- : IntKind.i64.wrap ((i : Int) + (m : Int) + ((n - j : Nat) : Int)) = (i : Int) + (m : Int) + ((n - j : Nat) : Int) := by rw [IntKind.wrap_i64]; omega
  -- : IntKind.i64.wrap ((i : Int) + (m : Int) + ((n : Int) - (j : Int))) = ((i + m + (n - j) : Nat) : Int) := by rw [IntKind.wrap_i64]; omega
  have hb1 : (0 : Int) ≤ (i : Int) + (m : Int) := by omega
  have htn : ((i : Int) + (m : Int)).toNat = i + m := by omega
  have hb4 : ¬ (cap = i) := by omega
  have hb5 : ¬ (cap = j) := by omega
  have hz1 : decide (((n : Int) = 0)) = false := decide_eq_false (by omega)
  have hc63 : cap ≤ 9223372036854775807 := by simp only [maxLen] at hcm; omega
  have htn2 : tot ≤ 9223372036854775807 := by omega
  clear htot
  go_enter Tryz.func101, Tryz.ntmps101
  go_wp2
  go_region
  go_wp2_with (at_builtin; refine Lib.wpList_append_run _ rfl _ _ _ _ rfl _ _ rfl rfl _ _ hR0 ?_)
  go_region
  go_wp2
  go_ret
  exact repl_post (RowAt.set (hg2.heap (W := W2.drew) rfl) c3) h2 (by omega) H3 H4 (by omega) H2 (.inr ⟨_, rfl, Nat.le_of_eq HS⟩) (turn_setRowE hT2.drew (fun h => by have : w.heap.size = G := HS; omega) _)
end Go.Proofs.YtboofamenpcnhaaGreatDoor
