/- Own contract: slices.Insert of runs between others. No statement is proved here. -/
import Derived.Test.YtmhdcpkncaghpaaIns
import Derived.Shelf.Spec.SlicesInsertGrow
namespace Go.Proofs.Ytmhdcpkncaghpaa
open Go.RowKit
set_option linter.unusedVariables false
set_option linter.unusedSimpArgs false

/-- Two pieces, one behind the other. -/
theorem put2_take {c V D : List Value} {a b : Nat} (h : a + V.length = b) (fit : b + D.length ≤ c.length) : (put (put c b D) a V).take (b + D.length) = c.take a ++ V ++ D := by
  have l0 : (c.take b).length = b := by rw [List.length_take]; omega
  have la : (c.take a).length = a := by rw [List.length_take]; omega
  have e1 : (put c b D).take a = c.take a := by
    unfold put
    rw [List.append_assoc, List.take_append_of_le_length (by omega), List.take_take, Nat.min_eq_left (by omega)]
  have e2 : (put c b D).drop (a + V.length) = D ++ c.drop (b + D.length) := by
    unfold put
    rw [h, List.append_assoc, List.drop_append_of_le_length (by omega), List.drop_of_length_le (by omega), List.nil_append]
  show ((put c b D).take a ++ V ++ (put c b D).drop (a + V.length)).take _ = _
  rw [e1, e2, ← List.append_assoc, List.take_append_of_le_length (by simp [List.length_append]; omega), List.take_of_length_le (by simp [List.length_append]; omega)]
theorem put2_take' {c V D : List Value} {a b : Nat} (h : a + V.length = b) (fit : b + D.length ≤ c.length) : (put (put c a V) b D).take (b + D.length) = c.take a ++ V ++ D := by
  have la : (c.take a).length = a := by rw [List.length_take]; omega
  have e1 : (put c a V).take b = c.take a ++ V := by
    unfold put
    rw [List.take_append_of_le_length (by simp [List.length_append]; omega), List.take_of_length_le (by simp [List.length_append]; omega)]
  show ((put c a V).take b ++ D ++ (put c a V).drop (b + D.length)).take _ = _
  rw [e1, List.take_append_of_le_length (by simp [List.length_append]; omega), List.take_of_length_le (by simp [List.length_append]; omega)]
theorem put_take_le {c V : List Value} {a k : Nat} (h : k ≤ a) (fit : a ≤ c.length) : (put c a V).take k = c.take k := by
  unfold put
  rw [List.append_assoc, List.take_append_of_le_length (by rw [List.length_take]; omega), List.take_take, Nat.min_eq_left h]
theorem take_of_take {c f : List Value} {n a : Nat} (h : c.take n = f) (ha : a ≤ n) : c.take a = f.take a := by
  rw [← h, List.take_take, Nat.min_eq_left ha]
theorem get_of_take {c f : List Value} {n : Nat} (h : c.take n = f) (j : Nat) (u : Value) (hj : f[j]? = some u) : c[j]? = some u := by
  rw [← h, List.getElem?_take] at hj
  split at hj
  · exact hj
  · cases hj

theorem RowAt.heap {w W : World} {g : Nat} {c : List Value} (h : RowAt w g c) (e : W.heap = w.heap) : RowAt W g c := by unfold RowAt; rw [e]; exact h

/-- copy, the source a piece of a row. -/
theorem copy_from (w : World) (g o dLen dCap gs os sLen sCap : Nat) (c cs : List Value) (ty : TypeId) (hg : RowAt w g c)
    (hl : cs.length = Nat.min sLen dLen * 2) (hcs : ∀ j u, cs[j]? = some u → w.cell? ⟨gs, os + j, none⟩ = some u)
    (hfit : o + cs.length ≤ c.length) (h1 : ∀ v ∈ cs, v.oneCell' = true) :
    (Builtin.copy_ #[39, 39] ty #[.slice (some ⟨g, o, none⟩) dLen dCap, .slice (some ⟨gs, os, none⟩) sLen sCap]).run Try.prog w = .ok (goInt (Nat.min sLen dLen)) (w.setRow g (put c o cs).toArray) :=
  copy_row w g o dLen dCap sLen _ c cs ty hg (by simp [Builtin.lenOf]) (run_firstCells_some w 2 (Nat.min sLen dLen) ⟨gs, os, none⟩ sLen sCap cs hl (fun j u hj => by rw [Addr.add_lit]; exact hcs j u hj)) hfit h1

/-- A row whose head is these runs. -/
structure Holds (w : World) (g : Nat) (c : List Value) (L : List (Nat × Nat)) : Prop where
  row : RowAt w g c
  head : c.take (L.length * 2) = flat L
theorem Holds.heap {w W : World} {g : Nat} {c : List Value} {L : List (Nat × Nat)} (h : Holds w g c L) (e : W.heap = w.heap) : Holds W g c L := ⟨h.row.heap e, h.head⟩
theorem Holds.other {w : World} {g k : Nat} {c d : List Value} {L : List (Nat × Nat)} (h : Holds w k c L) (hk : k ≠ g) : Holds (w.setRow g d.toArray) k c L := ⟨h.row.other hk, h.head⟩
theorem Holds.turn {S : Nat → Prop} {w w' : World} {g : Nat} {c : List Value} {L : List (Nat × Nat)} (h : Holds w g c L) (t : Turn S w w') (hn : ¬ S g) : Holds w' g c L := ⟨h.row.turn t hn, h.head⟩
theorem Holds.len {w : World} {g : Nat} {c : List Value} {L : List (Nat × Nat)} (h : Holds w g c L) : L.length * 2 ≤ c.length := by
  have := congrArg List.length h.head
  rw [List.length_take, flat_len] at this
  omega

/-- copy of a row's runs, from one on. -/
theorem copy_runs {w : World} {g o dLen dCap gs i sCap : Nat} {c cv : List Value} {L : List (Nat × Nat)} (ty : TypeId) (hg : RowAt w g c) (hs : Holds w gs cv L) (sLen : Nat) (hle : min sLen dLen = L.length - i) (hi : i ≤ L.length) (hfit : o + (L.length - i) * 2 ≤ c.length) :
    (Builtin.copy_ #[39, 39] ty #[.slice (some ⟨g, o, none⟩) dLen dCap, .slice (some ⟨gs, i * 2, none⟩) sLen sCap]).run Try.prog w = .ok (goInt (L.length - i)) (w.setRow g (put c o ((flat L).drop (i * 2))).toArray) := by
  have hl : ((flat L).drop (i * 2)).length = (L.length - i) * 2 := by rw [List.length_drop, flat_len]; omega
  have := copy_from w g o dLen dCap gs (i * 2) sLen sCap c ((flat L).drop (i * 2)) ty hg (by rw [hl]; show _ = min _ _ * 2; rw [hle]) (fun j u hj => by rw [hs.row.cell]; rw [List.getElem?_drop] at hj; exact get_of_take hs.head _ u hj) (by rw [hl]; exact hfit) (fun v hv => flat_one L v (List.mem_of_mem_drop hv))
  have e : Nat.min sLen dLen = L.length - i := hle
  rw [this]; congr 2; rw [e]; omega
theorem copy_all {w : World} {g o dLen dCap gs sCap : Nat} {c cv : List Value} {L : List (Nat × Nat)} (ty : TypeId) (hg : RowAt w g c) (hs : Holds w gs cv L) (hle : L.length ≤ dLen) (hfit : o + L.length * 2 ≤ c.length) :
    (Builtin.copy_ #[39, 39] ty #[.slice (some ⟨g, o, none⟩) dLen dCap, .slice (some ⟨gs, 0, none⟩) L.length sCap]).run Try.prog w = .ok (goInt L.length) (w.setRow g (put c o (flat L)).toArray) := by
  have := copy_runs (w := w) (g := g) (o := o) (dLen := dLen) (dCap := dCap) (gs := gs) (i := 0) (sCap := sCap) (c := c) (cv := cv) (L := L) ty hg hs L.length (by omega) (Nat.zero_le _) (by omega)
  simpa using this

theorem overlaps_no (w : World) (a b : Addr) (la ca lb cb : Nat) (ka kb : Nat) (hne : a.block ≠ b.block) (hsa : w.shape? a.block = some (43, ka)) (hsb : w.shape? b.block = some (43, kb)) (hk : kb ≠ 0)
    (hfa : w.frozen? a = false) (hfe : w.frozen? { block := a.block, off := ka } = false) :
    (callFunc 24 #[.slice (some a) la ca, .slice (some b) lb cb]).run Try.prog w = .ok (.value (.bool false)) w := by
  rw [run_callFunc_extern Try.func24 (by kernel_rfl) (by kernel_rfl) (by kernel_rfl) (e := Extern.SlicesOverlaps.overlaps #[39, 39] #[4]) (by kernel_rfl),
    Lib.run_overlaps_apart w 39 4 43 Try.underlying39 2 (fun w => by obtain ⟨i, hi, h2, _, _⟩ := info43; simp [sizeOf, typeInfo, hi, h2]) a b la ca lb cb hne 43 43 ka kb hsa hsb hk hfa hfe]
  rfl
theorem overlaps_rows {w : World} {ga gb oa ob la ca lb cb : Nat} {c d : List Value} (ha : RowAt w ga c) (hb : RowAt w gb d) (hne : ga ≠ gb) (hd : 0 < d.length) :
    (callFunc 24 #[.slice (some ⟨ga, oa, none⟩) la ca, .slice (some ⟨gb, ob, none⟩) lb cb]).run Try.prog w = .ok (.value (.bool false)) w :=
  overlaps_no w _ _ la ca lb cb _ _ hne ha.shape hb.shape (by omega) (ha.frozen _) (ha.frozen _)

/-- append(s[:i], make(S, k)...) where there is no room: a new row. -/
theorem append_made (w : World) (g i sCap k : Nat) (c : List Value) (L : List (Nat × Nat)) (ty : TypeId) (hg : Holds w g c L) (hi : i ≤ L.length) (h0 : 0 < k) (hgr : sCap < i + k) (hb : i + k ≤ 100000) :
    ∃ cap W c1, i + k ≤ cap ∧ cap ≤ maxLen ∧ c1.length = cap * 2 ∧ c1.take (i * 2) = (flat L).take (i * 2) ∧ RowAt W w.heap.size c1 ∧ Turn (fun _ => False) w W ∧
      (Builtin.append_ #[39, 3] ty #[.slice (some ⟨g, 0, none⟩) i sCap, .int .i64 (k : Int)]).run Try.prog w = .ok (.slice (some ⟨w.heap.size, 0, none⟩) (i + k) cap) W := by
  have hl : ((flat L).take (i * 2)).length = i * 2 := by rw [List.length_take, flat_len]; omega
  obtain ⟨cap, r, h1, h2, h3, h4⟩ := append_make w g i sCap k ((flat L).take (i * 2)) ty hl (fun j u hj => by
    rw [Addr.add_lit, Nat.zero_add, hg.row.cell]
    rw [List.getElem?_take] at hj
    split at hj
    · exact get_of_take hg.head _ u hj
    · cases hj) h0 hgr hb
  refine ⟨cap, _, (flat L).take (i * 2) ++ r, h1, h2, ?_, ?_, ?_, ?_, h4⟩
  · rw [List.length_append, hl, h3]; omega
  · rw [List.take_append_of_le_length (by omega), List.take_of_length_le (by omega)]
  · unfold RowAt; show (w.heap.push _)[w.heap.size]? = _; simp
  · exact ((Turn.refl _ w).drew).alloc _

theorem repl_post {w W : World} {v : Value} {g cap n i j : Nat} {c : List Value} {L vs L' : List (Nat × Nat)} (hr : RowAt W g c) (hcm : cap ≤ maxLen) (hcl : c.length = cap * 2)
    (hL : L' = L.take i ++ vs ++ L.drop j) (hn : L'.length = n) (hnc : n ≤ cap) (ht : c.take (n * 2) = (flat L).take (i * 2) ++ flat vs ++ (flat L).drop (j * 2)) (hf : Fresh w v (.slice (some ⟨g, 0, none⟩) n cap)) (hT : Turn (fun k => v.ownBlock = some k) w W) :
    ReplPost w v L' (.returned (.slice (some ⟨g, 0, none⟩) n cap)) W := by
  refine ⟨_, rfl, ?_, hf, hT⟩
  rw [hn]
  refine own_of hr hnc hcm hcl ?_ (by rw [flat_len, hn])
  rw [ht, hL, flat_app, flat_app, flat_take, flat_drop]

set_option maxHeartbeats 4000000 in
set_option maxRecDepth 100000 in
/-- Between others, where there is room. -/
theorem insert_shift (w : World) (g cap vb vc i : Nat) (L vs : List (Nat × Nat)) (c cv : List Value) (hg : Holds w g c L) (hcm : cap ≤ maxLen) (hcs : c.length = cap * 2)
    (hvb : Holds w vb cv vs) (hne : vb ≠ g) (hm : 0 < vs.length) (hb : L.length + vs.length ≤ 10000) (hi : i < L.length) (hroom : L.length + vs.length ≤ cap) :
    Calls Try.prog 23 #[.slice (some ⟨g, 0, none⟩) L.length cap, .int .i64 (i : Int), .slice (some ⟨vb, 0, none⟩) vs.length vc] w (ReplPost w (.slice (some ⟨g, 0, none⟩) L.length cap) (L.take i ++ vs ++ L.drop i)) := by
  obtain ⟨c1, hc1⟩ : ∃ c1, c1 = put c ((i + vs.length) * 2) ((flat L).drop (i * 2)) := ⟨_, rfl⟩
  have hR1 := copy_runs (w := w.drew) (g := g) (o := (i + vs.length) * 2) (dLen := L.length + vs.length - (i + vs.length)) (dCap := cap - (i + vs.length)) (gs := g) (i := i) (sCap := cap - i) (L := L) 3 (hg.row.heap rfl) (hg.heap rfl) (L.length + vs.length - i) (by omega) (by omega) (by omega)
  rw [← hc1] at hR1
  have hdl : ((flat L).drop (i * 2)).length = (L.length - i) * 2 := by rw [List.length_drop, flat_len]; omega
  have l1 : c1.length = c.length := by rw [hc1]; exact put_length (by rw [hdl]; omega)
  obtain ⟨W1, hW1⟩ : ∃ W1, W1 = w.drew.setRow g c1.toArray := ⟨_, rfl⟩
  have hg1 : RowAt W1 g c1 := by rw [hW1]; exact (hg.row.heap (W := w.drew) rfl).set c1
  have hv1 : Holds W1 vb cv vs := by rw [hW1]; exact (hvb.heap (W := w.drew) rfl).other hne
  have hT1 : Turn (fun k => (Value.slice (some ⟨g, 0, none⟩) L.length cap).ownBlock = some k) w W1 := by rw [hW1]; exact turn_setRow (Turn.refl _ w).drew (fun _ => by rfl) _
  rw [← hW1] at hR1
  obtain ⟨c2, hc2⟩ : ∃ c2, c2 = put c1 (i * 2) (flat vs) := ⟨_, rfl⟩
  have hR2 := copy_all (w := W1) (g := g) (o := i * 2) (dLen := L.length + vs.length - i) (dCap := cap - i) (gs := vb) (sCap := vc) 3 hg1 hv1 (by omega) (by rw [l1]; omega)
  rw [← hc2] at hR2
  have l2 : c2.length = c.length := by rw [hc2, put_length (by rw [flat_len, l1]; omega), l1]
  have hov : (callFunc 24 #[.slice (some ⟨vb, 0, none⟩) vs.length vc, .slice (some ⟨g, (i + vs.length) * 2, none⟩) (L.length + vs.length - (i + vs.length)) (cap - (i + vs.length))]).run Try.prog w = .ok (.value (.bool false)) w := overlaps_rows hvb.row hg.row hne (by omega)
  have ht2 : c2.take ((L.length + vs.length) * 2) = (flat L).take (i * 2) ++ flat vs ++ (flat L).drop (i * 2) := by
    have := put2_take (c := c) (V := flat vs) (D := (flat L).drop (i * 2)) (a := i * 2) (b := (i + vs.length) * 2) (by rw [flat_len]; omega) (by rw [hdl]; omega)
    rw [hdl, ← hc1, ← hc2] at this
    rw [show (L.length + vs.length) * 2 = (i + vs.length) * 2 + (L.length - i) * 2 by omega, this, take_of_take hg.head (by omega)]
  have hLL : (L.take i ++ vs ++ L.drop i).length = L.length + vs.length := by simp; omega
  have hg0 := hg.row
  obtain ⟨LL, HL⟩ : ∃ LL, LL = L.take i ++ vs ++ L.drop i := ⟨_, rfl⟩
  rw [← HL] at hLL ⊢
  clear hc1 hc2 hW1 hdl
  obtain ⟨n, hnn⟩ : ∃ n, L.length = n := ⟨_, rfl⟩
  obtain ⟨m, hmm⟩ : ∃ m, vs.length = m := ⟨_, rfl⟩
  have HG := Lib.hid hg
  have HV := Lib.hid hvb
  clear hg hvb hv1
  rw [hnn] at hb hi hroom hR1 hR2 hov ht2 hT1 hLL ⊢
  rw [hmm] at hm hb hroom hR1 hR2 hov ht2 hLL ⊢
  have HN := Lib.hid hnn
  have HM := Lib.hid hmm
  have H2 := Lib.hid ht2
  have H3 := Lib.hid HL
  have H4 := Lib.hid hLL
  clear hnn hmm ht2 HL hLL
  have e1 : decide ((m : Int) = 0) = false := decide_eq_false (by omega)
  have e2 : decide ((i : Int) = (n : Int)) = false := decide_eq_false (by omega)
  have hw1 : IntKind.i64.wrap ((i : Int) + (m : Int)) = (i : Int) + (m : Int) := by rw [IntKind.wrap_i64]; omega
  have hb1 : (0 : Int) ≤ (i : Int) + (m : Int) := by omega
  have hin : i ≤ n := by omega
  have htn : ((i : Int) + (m : Int)).toNat = i + m := by omega
  have hb2 : ¬ (cap = i + m) := by omega
  have hb3 : (i : Int) ≤ (n : Int) + (m : Int) := by omega
  have hb4 : ¬ (cap = i) := by omega
  have hc63 : cap ≤ 9223372036854775807 := by simp only [maxLen] at hcm; omega
  have hz3 : ¬ ((cap : Int) < (n : Int) + (m : Int)) := by omega
  go_enter Try.func23, Try.ntmps23
  go_wp2
  go_region
  go_wp2
  go_ret
  exact repl_post (hg1.set c2) hcm (by omega) H3 H4 (by omega) H2 (.inl rfl) (turn_setRow hT1 (fun _ => rfl) _)

set_option maxHeartbeats 4000000 in
set_option maxRecDepth 100000 in
/-- Between others, where there is no room. -/
theorem insert_grow (w : World) (g cap vb vc i : Nat) (L vs : List (Nat × Nat)) (c cv : List Value) (hg : Holds w g c L) (hn : L.length ≤ cap) (hcm : cap ≤ maxLen)
    (hvb : Holds w vb cv vs) (hm : 0 < vs.length) (hb : L.length + vs.length ≤ 10000) (hi : i < L.length) (hroom : cap < L.length + vs.length) :
    Calls Try.prog 23 #[.slice (some ⟨g, 0, none⟩) L.length cap, .int .i64 (i : Int), .slice (some ⟨vb, 0, none⟩) vs.length vc] w (ReplPost w (.slice (some ⟨g, 0, none⟩) L.length cap) (L.take i ++ vs ++ L.drop i)) := by
  obtain ⟨cap', W1, c1, h1, h2, h3, h4, hg1, hT0, hR0⟩ := append_made w g i cap (L.length + vs.length - i) c L 39 hg (by omega) (by omega) (by omega) (by omega)
  have hgl : g < w.heap.size := hg.row.lt
  have hvl : vb < w.heap.size := hvb.row.lt
  obtain ⟨G, hG⟩ : ∃ G, w.heap.size = G := ⟨_, rfl⟩
  rw [hG] at hg1 hR0 hgl hvl
  rw [show i + (L.length + vs.length - i) = L.length + vs.length by omega] at h1 hR0
  rw [show ((L.length + vs.length - i : Nat) : Int) = (L.length : Int) + (vs.length : Int) - (i : Int) by omega] at hR0
  have hgo : Holds W1 g c L := hg.turn hT0 id
  have hvo : Holds W1 vb cv vs := hvb.turn hT0 id
  obtain ⟨c2, hc2⟩ : ∃ c2, c2 = put c1 (i * 2) (flat vs) := ⟨_, rfl⟩
  have hR2 := copy_all (w := W1) (g := G) (o := i * 2) (dLen := L.length + vs.length - i) (dCap := cap' - i) (gs := vb) (sCap := vc) 3 hg1 hvo (by omega) (by omega)
  rw [← hc2] at hR2
  have l2 : c2.length = c1.length := by rw [hc2, put_length (by rw [flat_len]; omega)]
  obtain ⟨W2, hW2⟩ : ∃ W2, W2 = W1.setRow G c2.toArray := ⟨_, rfl⟩
  have hg2 : RowAt W2 G c2 := by rw [hW2]; exact hg1.set c2
  have hgo2 : Holds W2 g c L := by rw [hW2]; exact hgo.other (by omega)
  have hT2 : Turn (fun k => (Value.slice (some ⟨g, 0, none⟩) L.length cap).ownBlock = some k) w W2 := by rw [hW2]; exact turn_setRow (hT0.mono (fun _ _ h => h.elim)) (fun h => by omega) _
  rw [← hW2] at hR2
  obtain ⟨c3, hc3⟩ : ∃ c3, c3 = put c2 ((i + vs.length) * 2) ((flat L).drop (i * 2)) := ⟨_, rfl⟩
  have hR3 := copy_runs (w := W2.drew) (g := G) (o := (i + vs.length) * 2) (dLen := L.length + vs.length - (i + vs.length)) (dCap := cap' - (i + vs.length)) (gs := g) (i := i) (sCap := cap - i) (L := L) 3 (hg2.heap rfl) (hgo2.heap rfl) (L.length - i) (by omega) (by omega) (by omega)
  rw [← hc3] at hR3
  have hdl : ((flat L).drop (i * 2)).length = (L.length - i) * 2 := by rw [List.length_drop, flat_len]; omega
  have l3 : c3.length = c1.length := by rw [hc3, put_length (by rw [hdl]; omega), l2]
  have ht3 : c3.take ((L.length + vs.length) * 2) = (flat L).take (i * 2) ++ flat vs ++ (flat L).drop (i * 2) := by
    have := put2_take' (c := c1) (V := flat vs) (D := (flat L).drop (i * 2)) (a := i * 2) (b := (i + vs.length) * 2) (by rw [flat_len]; omega) (by rw [hdl]; omega)
    rw [hdl, ← hc2, ← hc3] at this
    rw [show (L.length + vs.length) * 2 = (i + vs.length) * 2 + (L.length - i) * 2 by omega, this, h4]
  have hLL : (L.take i ++ vs ++ L.drop i).length = L.length + vs.length := by simp; omega
  obtain ⟨LL, HL⟩ : ∃ LL, LL = L.take i ++ vs ++ L.drop i := ⟨_, rfl⟩
  rw [← HL] at hLL ⊢
  clear hc2 hc3 hW2 hdl h4
  obtain ⟨n, hnn⟩ : ∃ n, L.length = n := ⟨_, rfl⟩
  obtain ⟨m, hmm⟩ : ∃ m, vs.length = m := ⟨_, rfl⟩
  have HG := Lib.hid hg
  have HV := Lib.hid hvb
  have HS := Lib.hid hG
  clear hg hvb hvo hgo hgo2 hG
  rw [hnn] at hb hi hroom hn hR0 hR2 hR3 ht3 hT2 hLL h1 ⊢
  rw [hmm] at hm hb hroom hR0 hR2 hR3 ht3 hLL h1 ⊢
  have HN := Lib.hid hnn
  have HM := Lib.hid hmm
  have H2 := Lib.hid ht3
  have H3 := Lib.hid HL
  have H4 := Lib.hid hLL
  clear hnn hmm ht3 HL hLL
  have e1 : decide ((m : Int) = 0) = false := decide_eq_false (by omega)
  have e2 : decide ((i : Int) = (n : Int)) = false := decide_eq_false (by omega)
  have hw1 : IntKind.i64.wrap ((i : Int) + (m : Int)) = (i : Int) + (m : Int) := by rw [IntKind.wrap_i64]; omega
  have hb1 : (0 : Int) ≤ (i : Int) + (m : Int) := by omega
  have hin : i ≤ n := by omega
  have htn : ((i : Int) + (m : Int)).toNat = i + m := by omega
  have hb2 : ¬ (cap' = i + m) := by omega
  have hb3 : (i : Int) ≤ (n : Int) + (m : Int) := by omega
  have hb4 : ¬ (cap' = i) := by omega
  have hb5 : ¬ (cap = i) := by omega
  have hb6 : (i : Int) ≤ (n : Int) := by omega
  have hc63 : cap ≤ 9223372036854775807 := by simp only [maxLen] at hcm; omega
  have hc64 : cap' ≤ 9223372036854775807 := by simp only [maxLen] at h2; omega
  have hz3 : ((cap : Int) < (n : Int) + (m : Int)) := by omega
  go_enter Try.func23, Try.ntmps23
  go_wp2_with (at_builtin; refine Lib.wpList_append_run _ rfl _ _ _ _ rfl _ _ rfl rfl _ _ hR0 ?_)
  go_region
  go_wp2
  go_ret
  exact repl_post (RowAt.set (hg2.heap (W := W2.drew) rfl) c3) h2 (by omega) H3 H4 (by omega) H2 (.inr ⟨_, rfl, Nat.le_of_eq HS⟩) (turn_setRow hT2.drew (fun h => by have : w.heap.size = G := HS; omega) _)

/-- All of slices.Insert. -/
theorem insert_any (w : World) (v x : Value) (i : Nat) (L vs : List (Nat × Nat)) (hv : w.ownsRow 0 43 2 v L.length (flat L)) (hx : w.ownsRow 0 43 2 x vs.length (flat vs)) (hap : ∀ k, x.ownBlock = some k → v.ownBlock ≠ some k)
    (hm : 0 < vs.length) (hb : L.length + vs.length ≤ 10000) (hi : i ≤ L.length) : Calls Try.prog 23 #[v, .int .i64 (i : Int), x] w (ReplPost w v (L.take i ++ vs ++ L.drop i)) := by
  by_cases e : i = L.length
  · subst e
    rw [List.take_of_length_le (Nat.le_refl _), List.drop_of_length_le (Nat.le_refl _), List.append_nil]
    exact insert_end w v x L vs hv hx hm hb
  · rcases hv.2 with ⟨rfl, h0⟩ | ⟨g, cap, cur, rfl, _, hg, hnc, hcm, hcs, ht⟩
    · omega
    rcases hx.2 with ⟨rfl, h0⟩ | ⟨vb, vc, vcur, rfl, _, hvg, hnc', hcm', hcs', hvt⟩
    · omega
    have hne : vb ≠ g := by
      rintro rfl
      exact hap _ rfl rfl
    have h1 : Holds w g cur.toList L := ⟨by unfold RowAt; simpa using hg, ht⟩
    have h2 : Holds w vb vcur.toList vs := ⟨by unfold RowAt; simpa using hvg, hvt⟩
    by_cases hr : L.length + vs.length ≤ cap
    · exact insert_shift w g cap vb vc i L vs _ _ h1 hcm (by simpa using hcs) h2 hne hm hb (by omega) hr
    · exact insert_grow w g cap vb vc i L vs _ _ h1 hnc hcm h2 hm hb (by omega) (by omega)
end Go.Proofs.Ytmhdcpkncaghpaa
