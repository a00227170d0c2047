/- Own contract: slices.Replace of runs. No statement is proved here. -/
import Derived.Test.YtmhdcpkncaghpaaRep
namespace Go.Proofs.Ytmhdcpkncaghpaa
open Go.RowKit
set_option linter.unusedVariables false
set_option linter.unusedSimpArgs false

set_option maxHeartbeats 4000000 in
set_option maxRecDepth 100000 in
/-- More than goes out comes in, and there is room. -/
theorem repl_more (w : World) (g cap i j vb vc : Nat) (L vs : List (Nat × Nat)) (c cv : List Value) (hg : Holds w g c L) (hcm : cap ≤ maxLen) (hcs : c.length = cap * 2) (hn : L.length ≤ cap)
    (hv : Holds w vb cv vs) (hne : vb ≠ g) (hb : L.length + vs.length ≤ 10000) (hij : i < j) (hj : j < L.length) (hle : j < i + vs.length) (hroom : i + vs.length + (L.length - j) ≤ cap) :
    Calls Try.prog 22 #[.slice (some ⟨g, 0, none⟩) L.length cap, .int .i64 (i : Int), .int .i64 (j : Int), .slice (some ⟨vb, 0, none⟩) vs.length vc] w (ReplPost w (.slice (some ⟨g, 0, none⟩) L.length cap) (L.take i ++ vs ++ L.drop j)) := by
  have hLL : (L.take i ++ vs ++ L.drop j).length = i + vs.length + (L.length - j) := by simp; omega
  obtain ⟨LL, HL⟩ : ∃ LL, LL = L.take i ++ vs ++ L.drop j := ⟨_, rfl⟩
  rw [← HL] at hLL ⊢
  have hdl := drop_len L j (by omega)
  obtain ⟨c1, hc1⟩ : ∃ c1, c1 = put c ((i + vs.length) * 2) ((flat L).drop (j * 2)) := ⟨_, rfl⟩
  have hov : (callFunc 24 #[.slice (some ⟨g, (i + vs.length) * 2, none⟩) (i + vs.length + (L.length - j) - (i + vs.length)) (cap - (i + vs.length)), .slice (some ⟨vb, 0, none⟩) vs.length vc]).run Try.prog w.drew = .ok (.value (.bool false)) w.drew :=
    overlaps_rows (hg.row.heap rfl) (hv.row.heap rfl) (fun e => hne e.symm) (by have := hv.len; omega)
  have hR1 := copy_runs (w := w.drew.drew) (g := g) (o := (i + vs.length) * 2) (dLen := i + vs.length + (L.length - j) - (i + vs.length)) (dCap := cap - (i + vs.length)) (gs := g) (i := j) (sCap := cap - j) (L := L) 3 (hg.row.heap rfl) (hg.heap rfl) (L.length - j) (by omega) (by omega) (by omega)
  rw [← hc1] at hR1
  have l1 : c1.length = c.length := by rw [hc1]; exact put_length (by rw [hdl]; omega)
  obtain ⟨W1, hW1⟩ : ∃ W1, W1 = w.drew.drew.setRow g c1.toArray := ⟨_, rfl⟩
  have hg1 : RowAt W1 g c1 := by rw [hW1]; exact (hg.row.heap (W := w.drew.drew) rfl).set c1
  have hv1 : Holds W1 vb cv vs := by rw [hW1]; exact (hv.heap (W := w.drew.drew) rfl).other hne
  have hT1 : Turn (fun k => (Value.slice (some ⟨g, 0, none⟩) L.length cap).ownBlock = some k) w W1 := by rw [hW1]; exact turn_setRow (Turn.refl _ w).drew.drew (fun _ => by rfl) _
  rw [← hW1] at hR1
  obtain ⟨c2, hc2⟩ : ∃ c2, c2 = put c1 (i * 2) (flat vs) := ⟨_, rfl⟩
  have hR2 := copy_all (w := W1) (g := g) (o := i * 2) (dLen := i + vs.length + (L.length - j) - i) (dCap := cap - i) (gs := vb) (sCap := vc) 3 hg1 hv1 (by omega) (by rw [l1]; omega)
  rw [← hc2] at hR2
  have l2 : c2.length = c.length := by rw [hc2, put_length (by rw [flat_len, l1]; omega), l1]
  have ht2 : c2.take ((i + vs.length + (L.length - j)) * 2) = (flat L).take (i * 2) ++ flat vs ++ (flat L).drop (j * 2) := by
    have := put2_take (c := c) (V := flat vs) (D := (flat L).drop (j * 2)) (a := i * 2) (b := (i + vs.length) * 2) (by rw [flat_len]; omega) (by rw [hdl]; omega)
    rw [hdl, ← hc1, ← hc2] at this
    rw [show (i + vs.length + (L.length - j)) * 2 = (i + vs.length) * 2 + (L.length - j) * 2 by omega, this, take_of_take hg.head (by omega)]
  clear hc1 hc2 hW1 hdl
  obtain ⟨n, hnn⟩ : ∃ n, L.length = n := ⟨_, rfl⟩
  obtain ⟨m, hmm⟩ : ∃ m, vs.length = m := ⟨_, rfl⟩
  have HG := Lib.hid hg
  have HV := Lib.hid hv
  clear hg hv hv1
  rw [hnn] at hb hj hn hov hR1 hR2 hT1 ht2 hLL hroom ⊢
  rw [hmm] at hb hle hov hR1 hR2 ht2 hLL hroom ⊢
  obtain ⟨tot, htot⟩ : ∃ tot, tot = i + m + (n - j) := ⟨_, rfl⟩
  rw [← htot] at hov hR1 hR2 ht2 hLL hroom
  have hw4 : IntKind.i64.wrap ((i : Int) + (m : Int) + ((n - j : Nat) : Int)) = (tot : Int) := by rw [IntKind.wrap_i64]; omega
  have hw5 : IntKind.i64.wrap ((i : Int) + (m : Int) + ((n : Int) - (j : Int))) = (tot : Int) := by rw [IntKind.wrap_i64]; omega
  have e5 : decide ((i : Int) + (m : Int) ≤ (j : Int)) = false := decide_eq_false (by omega)
  have e6 : decide ((cap : Int) < (tot : Int)) = false := decide_eq_false (by omega)
  have him : i + m ≤ tot := by omega
  have hb6 : ¬ (cap = i + m) := by omega
  have HT := Lib.hid htot
  have H2 := Lib.hid ht2
  have H3 := Lib.hid HL
  have H4 := Lib.hid hLL
  clear hnn hmm ht2 HL hLL
  have e2 : decide ((i : Int) = (j : Int)) = false := decide_eq_false (by omega)
  have e4 : decide ((j : Int) = (n : Int)) = false := decide_eq_false (by omega)
  have hin : i ≤ n := by omega
  have hjn : j ≤ n := by omega
  have hjI : (j : Int) ≤ (n : Int) := by omega
  have hiI : (i : Int) ≤ (n : Int) := by omega
  have hijI : (i : Int) ≤ (j : Int) := by omega
  have nj : ((n - j : Nat) : Int) = (n : Int) - (j : Int) := by omega
  have NJ := Lib.hid nj
  clear nj
  have hw1 : IntKind.i64.wrap ((i : Int) + (m : Int)) = (i : Int) + (m : Int) := by rw [IntKind.wrap_i64]; omega
  -- : IntKind.i64.wrap ((i : Int) + (m : Int) + ((n - j : Nat) : Int)) = (i : Int) + (m : Int) + ((n - j : Nat) : Int) := by rw [IntKind.wrap_i64]; omega
  -- : IntKind.i64.wrap ((i : Int) + (m : Int) + ((n : Int) - (j : Int))) = ((i + m + (n - j) : Nat) : Int) := by rw [IntKind.wrap_i64]; omega
  have hb1 : (0 : Int) ≤ (i : Int) + (m : Int) := by omega
  have htn : ((i : Int) + (m : Int)).toNat = i + m := by omega
  have hb4 : ¬ (cap = i) := by omega
  have hb5 : ¬ (cap = j) := by omega
  have hz1 : decide (((n : Int) = 0)) = false := decide_eq_false (by omega)
  have hc63 : cap ≤ 9223372036854775807 := by simp only [maxLen] at hcm; omega
  have htn2 : tot ≤ 9223372036854775807 := by omega
  clear htot
  go_enter Try.func22, Try.ntmps22
  go_wp2
  go_region
  go_wp2
  go_region
  go_wp2
  go_ret
  exact repl_post (hg1.set c2) hcm (by omega) H3 H4 (by omega) H2 (.inl rfl) (turn_setRow hT1 (fun _ => by rfl) _)

set_option maxHeartbeats 4000000 in
set_option maxRecDepth 100000 in
/-- More than goes out comes in, and there is no room. -/
theorem repl_grow (w : World) (g cap i j vb vc : Nat) (L vs : List (Nat × Nat)) (c cv : List Value) (hg : Holds w g c L) (hcm : cap ≤ maxLen) (hn : L.length ≤ cap)
    (hv : Holds w vb cv vs) (hb : L.length + vs.length ≤ 10000) (hij : i < j) (hj : j < L.length) (hroom : cap < i + vs.length + (L.length - j)) :
    Calls Try.prog 22 #[.slice (some ⟨g, 0, none⟩) L.length cap, .int .i64 (i : Int), .int .i64 (j : Int), .slice (some ⟨vb, 0, none⟩) vs.length vc] w (ReplPost w (.slice (some ⟨g, 0, none⟩) L.length cap) (L.take i ++ vs ++ L.drop j)) := by
  have hLL : (L.take i ++ vs ++ L.drop j).length = i + vs.length + (L.length - j) := by simp; omega
  obtain ⟨LL, HL⟩ : ∃ LL, LL = L.take i ++ vs ++ L.drop j := ⟨_, rfl⟩
  rw [← HL] at hLL ⊢
  have hdl := drop_len L j (by omega)
  obtain ⟨cap', W1, c1, h1, h2, h3, h4, hg1, hT0, hR0⟩ := append_made w.drew g i cap (vs.length + (L.length - j)) c L 39 (hg.heap rfl) (by omega) (by omega) (by omega) (by omega)
  have hT0 : Turn (fun _ => False) w W1 := hT0.of_drew
  have hgl : g < w.heap.size := hg.row.lt
  have hvl : vb < w.heap.size := hv.row.lt
  obtain ⟨G, hG⟩ : ∃ G, w.heap.size = G := ⟨_, rfl⟩
  have hG' : w.drew.heap.size = G := hG
  rw [hG'] at hg1 hR0
  rw [hG] at hgl hvl
  rw [← Nat.add_assoc] at h1 hR0
  have hgo : Holds W1 g c L := hg.turn hT0 id
  have hvo : Holds W1 vb cv vs := hv.turn hT0 id
  obtain ⟨c2, hc2⟩ : ∃ c2, c2 = put c1 (i * 2) (flat vs) := ⟨_, rfl⟩
  have hR2 := copy_all (w := W1) (g := G) (o := i * 2) (dLen := i + vs.length + (L.length - j) - i) (dCap := cap' - i) (gs := vb) (sCap := vc) 3 hg1 hvo (by omega) (by omega)
  rw [← hc2] at hR2
  have l2 : c2.length = c1.length := by rw [hc2, put_length (by rw [flat_len]; omega)]
  obtain ⟨W2, hW2⟩ : ∃ W2, W2 = W1.setRow G c2.toArray := ⟨_, rfl⟩
  have hg2 : RowAt W2 G c2 := by rw [hW2]; exact hg1.set c2
  have hgo2 : Holds W2 g c L := by rw [hW2]; exact hgo.other (by omega)
  have hT2 : Turn (fun k => (Value.slice (some ⟨g, 0, none⟩) L.length cap).ownBlock = some k) w W2 := by rw [hW2]; exact turn_setRow (hT0.mono (fun _ _ h => h.elim)) (fun h => by omega) _
  rw [← hW2] at hR2
  obtain ⟨c3, hc3⟩ : ∃ c3, c3 = put c2 ((i + vs.length) * 2) ((flat L).drop (j * 2)) := ⟨_, rfl⟩
  have hR3 := copy_runs (w := W2.drew) (g := G) (o := (i + vs.length) * 2) (dLen := i + vs.length + (L.length - j) - (i + vs.length)) (dCap := cap' - (i + vs.length)) (gs := g) (i := j) (sCap := cap - j) (L := L) 3 (hg2.heap rfl) (hgo2.heap rfl) (L.length - j) (by omega) (by omega) (by omega)
  rw [← hc3] at hR3
  have l3 : c3.length = c1.length := by rw [hc3, put_length (by rw [hdl]; omega), l2]
  have ht3 : c3.take ((i + vs.length + (L.length - j)) * 2) = (flat L).take (i * 2) ++ flat vs ++ (flat L).drop (j * 2) := by
    have := put2_take' (c := c1) (V := flat vs) (D := (flat L).drop (j * 2)) (a := i * 2) (b := (i + vs.length) * 2) (by rw [flat_len]; omega) (by rw [hdl]; omega)
    rw [hdl, ← hc2, ← hc3] at this
    rw [show (i + vs.length + (L.length - j)) * 2 = (i + vs.length) * 2 + (L.length - j) * 2 by omega, this, h4]
  clear hc2 hc3 hW2 hdl h4
  obtain ⟨n, hnn⟩ : ∃ n, L.length = n := ⟨_, rfl⟩
  obtain ⟨m, hmm⟩ : ∃ m, vs.length = m := ⟨_, rfl⟩
  have HG := Lib.hid hg
  have HV := Lib.hid hv
  have HS := Lib.hid hG
  clear hg hv hvo hgo hgo2 hG hG'
  rw [hnn] at hb hj hn hR0 hR2 hR3 hT2 ht3 hLL hroom h1 ⊢
  rw [hmm] at hb hR0 hR2 hR3 ht3 hLL hroom h1 ⊢
  have hmj : j < i + m := by omega
  obtain ⟨tot, htot⟩ : ∃ tot, tot = i + m + (n - j) := ⟨_, rfl⟩
  rw [← htot] at hR0 hR2 hR3 ht3 hLL hroom h1
  rw [show ((m + (n - j) : Nat) : Int) = (tot : Int) - (i : Int) by omega] at hR0
  have hw4 : IntKind.i64.wrap ((i : Int) + (m : Int) + ((n - j : Nat) : Int)) = (tot : Int) := by rw [IntKind.wrap_i64]; omega
  have hw5 : IntKind.i64.wrap ((i : Int) + (m : Int) + ((n : Int) - (j : Int))) = (tot : Int) := by rw [IntKind.wrap_i64]; omega
  have e6 : decide ((cap : Int) < (tot : Int)) = true := decide_eq_true (by omega)
  have him : i + m ≤ tot := by omega
  have hb7 : ¬ (cap' = i + m) := by omega
  have hb8 : ¬ (cap' = i) := by omega
  have hc64 : cap' ≤ 9223372036854775807 := by simp only [maxLen] at h2; omega
  have HT := Lib.hid htot
  have H2 := Lib.hid ht3
  have H3 := Lib.hid HL
  have H4 := Lib.hid hLL
  clear hnn hmm ht3 HL hLL
  have e2 : decide ((i : Int) = (j : Int)) = false := decide_eq_false (by omega)
  have e4 : decide ((j : Int) = (n : Int)) = false := decide_eq_false (by omega)
  have hin : i ≤ n := by omega
  have hjn : j ≤ n := by omega
  have hjI : (j : Int) ≤ (n : Int) := by omega
  have hiI : (i : Int) ≤ (n : Int) := by omega
  have hijI : (i : Int) ≤ (j : Int) := by omega
  have nj : ((n - j : Nat) : Int) = (n : Int) - (j : Int) := by omega
  have NJ := Lib.hid nj
  clear nj
  have hw1 : IntKind.i64.wrap ((i : Int) + (m : Int)) = (i : Int) + (m : Int) := by rw [IntKind.wrap_i64]; omega
  -- : IntKind.i64.wrap ((i : Int) + (m : Int) + ((n - j : Nat) : Int)) = (i : Int) + (m : Int) + ((n - j : Nat) : Int) := by rw [IntKind.wrap_i64]; omega
  -- : IntKind.i64.wrap ((i : Int) + (m : Int) + ((n : Int) - (j : Int))) = ((i + m + (n - j) : Nat) : Int) := by rw [IntKind.wrap_i64]; omega
  have hb1 : (0 : Int) ≤ (i : Int) + (m : Int) := by omega
  have htn : ((i : Int) + (m : Int)).toNat = i + m := by omega
  have hb4 : ¬ (cap = i) := by omega
  have hb5 : ¬ (cap = j) := by omega
  have hz1 : decide (((n : Int) = 0)) = false := decide_eq_false (by omega)
  have hc63 : cap ≤ 9223372036854775807 := by simp only [maxLen] at hcm; omega
  have htn2 : tot ≤ 9223372036854775807 := by omega
  clear htot
  go_enter Try.func22, Try.ntmps22
  go_wp2
  go_region
  go_wp2_with (at_builtin; refine Lib.wpList_append_run _ rfl _ _ _ _ rfl _ _ rfl rfl _ _ hR0 ?_)
  go_region
  go_wp2
  go_ret
  exact repl_post (RowAt.set (hg2.heap (W := W2.drew) rfl) c3) h2 (by omega) H3 H4 (by omega) H2 (.inr ⟨_, rfl, Nat.le_of_eq HS⟩) (turn_setRow hT2.drew (fun h => by have : w.heap.size = G := HS; omega) _)

end Go.Proofs.Ytmhdcpkncaghpaa
