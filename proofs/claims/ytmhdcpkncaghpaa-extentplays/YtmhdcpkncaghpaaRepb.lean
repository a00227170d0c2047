/- Own contract: slices.Replace of runs. No statement is proved here. -/
import Derived.Test.YtmhdcpkncaghpaaRep
namespace Go.Proofs.Ytmhdcpkncaghpaa
open Go.RowKit
set_option linter.unusedVariables false
set_option linter.unusedSimpArgs false

set_option maxHeartbeats 4000000 in
set_option maxRecDepth 100000 in
/-- No more than goes out comes in. -/
theorem repl_less (w : World) (g cap i j vc : Nat) (ob : Option Addr) (L vs : List (Nat × Nat)) (c : List Value) (hg : Holds w g c L) (hcm : cap ≤ maxLen) (hcs : c.length = cap * 2) (hn : L.length ≤ cap)
    (hR1 : ∀ (dCap : Nat), (Builtin.copy_ #[39, 39] 3 #[.slice (some ⟨g, i * 2, none⟩) (i + vs.length + (L.length - j) - i) dCap, .slice ob vs.length vc]).run Try.prog w.drew = .ok (goInt vs.length) (w.drew.setRow g (put c (i * 2) (flat vs)).toArray))
    (hb : L.length + vs.length ≤ 10000) (hij : i < j) (hj : j < L.length) (hle : i + vs.length ≤ j) :
    Calls Try.prog 22 #[.slice (some ⟨g, 0, none⟩) L.length cap, .int .i64 (i : Int), .int .i64 (j : Int), .slice ob vs.length vc] w (ReplPost w (.slice (some ⟨g, 0, none⟩) L.length cap) (L.take i ++ vs ++ L.drop j)) := by
  have hLL : (L.take i ++ vs ++ L.drop j).length = i + vs.length + (L.length - j) := by simp; omega
  obtain ⟨LL, HL⟩ : ∃ LL, LL = L.take i ++ vs ++ L.drop j := ⟨_, rfl⟩
  rw [← HL] at hLL ⊢
  have hdl := drop_len L j (by omega)
  obtain ⟨c1, hc1⟩ : ∃ c1, c1 = put c (i * 2) (flat vs) := ⟨_, rfl⟩
  have hR1 := hR1 (cap - i)
  rw [← hc1] at hR1
  have l1 : c1.length = c.length := by rw [hc1]; exact put_length (by rw [flat_len]; omega)
  obtain ⟨W1, hW1⟩ : ∃ W1, W1 = w.drew.setRow g c1.toArray := ⟨_, rfl⟩
  have hg1 : RowAt W1 g c1 := by rw [hW1]; exact (hg.row.heap (W := w.drew) rfl).set c1
  have hT1 : Turn (fun k => (Value.slice (some ⟨g, 0, none⟩) L.length cap).ownBlock = some k) w W1 := by rw [hW1]; exact turn_setRow (Turn.refl _ w).drew (fun _ => by rfl) _
  rw [← hW1] at hR1
  obtain ⟨c2, hc2⟩ : ∃ c2, c2 = put c1 ((i + vs.length) * 2) ((flat L).drop (j * 2)) := ⟨_, rfl⟩
  have hgc : ∀ k u, ((flat L).drop (j * 2))[k]? = some u → c1[j * 2 + k]? = some u := fun k u hk => by
    rw [List.getElem?_drop] at hk
    rw [hc1, put_get (by rw [flat_len]; omega), if_neg (by omega), if_neg (by rw [flat_len]; omega)]
    exact get_of_take hg.head _ u hk
  have hR2 := copy_from W1.drew g ((i + vs.length) * 2) (i + vs.length + (L.length - j) - (i + vs.length)) (cap - (i + vs.length)) g (j * 2) (L.length - j) (cap - j) c1 ((flat L).drop (j * 2)) 3 (hg1.heap rfl) (by rw [hdl]; show _ = min _ _ * 2; omega)
    (fun k u hk => by rw [(hg1.heap (W := W1.drew) rfl).cell]; exact hgc k u hk) (by rw [hdl]; omega) (fun v hv => flat_one L v (List.mem_of_mem_drop hv))
  rw [← hc2] at hR2
  have l2 : c2.length = c.length := by rw [hc2, put_length (by rw [hdl]; omega), l1]
  obtain ⟨W2, hW2⟩ : ∃ W2, W2 = W1.drew.setRow g c2.toArray := ⟨_, rfl⟩
  have hg2 : RowAt W2 g c2 := by rw [hW2]; exact (hg1.heap (W := W1.drew) rfl).set c2
  have hT2 : Turn (fun k => (Value.slice (some ⟨g, 0, none⟩) L.length cap).ownBlock = some k) w W2 := by rw [hW2]; exact turn_setRow hT1.drew (fun _ => by rfl) _
  rw [← hW2] at hR2
  have ht2 : c2.take ((i + vs.length + (L.length - j)) * 2) = (flat L).take (i * 2) ++ flat vs ++ (flat L).drop (j * 2) := by
    have := put2_take' (c := c) (V := flat vs) (D := (flat L).drop (j * 2)) (a := i * 2) (b := (i + vs.length) * 2) (by rw [flat_len]; omega) (by rw [hdl]; omega)
    rw [hdl, ← hc1, ← hc2] at this
    rw [show (i + vs.length + (L.length - j)) * 2 = (i + vs.length) * 2 + (L.length - j) * 2 by omega, this, take_of_take hg.head (by omega)]
  obtain ⟨c3, hc3⟩ : ∃ c3, c3 = put c2 ((i + vs.length + (L.length - j)) * 2) (List.replicate ((L.length - (i + vs.length + (L.length - j))) * 2) (.int .i64 0)) := ⟨_, rfl⟩
  have hR3 : i + vs.length + (L.length - j) < L.length → (Builtin.clear_ #[39] 0 #[.slice (some ⟨g, (i + vs.length + (L.length - j)) * 2, none⟩) (L.length - (i + vs.length + (L.length - j))) (cap - (i + vs.length + (L.length - j)))]).run Try.prog W2 = .ok (.tuple #[]) (W2.setRow g c3.toArray) := fun h => by
    rw [hc3]
    exact clear_row W2 g _ _ _ c2 0 hg2 (by omega) (by omega)
  have l3 : i + vs.length + (L.length - j) < L.length → c3.length = c2.length ∧ c3.take ((i + vs.length + (L.length - j)) * 2) = c2.take ((i + vs.length + (L.length - j)) * 2) := fun h => by
    rw [hc3]
    exact ⟨put_length (by rw [List.length_replicate]; omega), put_take_le (Nat.le_refl _) (by omega)⟩
  clear hc1 hc2 hc3 hW1 hW2 hdl hgc
  obtain ⟨n, hnn⟩ : ∃ n, L.length = n := ⟨_, rfl⟩
  obtain ⟨m, hmm⟩ : ∃ m, vs.length = m := ⟨_, rfl⟩
  have HG := Lib.hid hg
  clear hg
  rw [hnn] at hb hj hn hR1 hR2 hR3 l3 hT1 hT2 ht2 hLL ⊢
  rw [hmm] at hb hle hR1 hR2 hR3 l3 ht2 hLL ⊢
  obtain ⟨tot, htot⟩ : ∃ tot, tot = i + m + (n - j) := ⟨_, rfl⟩
  rw [← htot] at hR1 hR2 hR3 l3 ht2 hLL
  have hmin : Nat.min (n - j) (tot - (i + m)) = n - j := by show min _ _ = _; omega
  rw [hmin] at hR2
  have hw4 : IntKind.i64.wrap ((i : Int) + (m : Int) + ((n - j : Nat) : Int)) = (tot : Int) := by rw [IntKind.wrap_i64]; omega
  have hw5 : IntKind.i64.wrap ((i : Int) + (m : Int) + ((n : Int) - (j : Int))) = (tot : Int) := by rw [IntKind.wrap_i64]; omega
  have e5 : decide ((i : Int) + (m : Int) ≤ (j : Int)) = true := decide_eq_true (by omega)
  have e6 : decide ((cap : Int) < (tot : Int)) = false := decide_eq_false (by omega)
  have htc : tot ≤ n := by omega
  have him : i + m ≤ tot := by omega
  have hb6 : ¬ (cap = i + m) := by omega
  have HT := Lib.hid htot
  have H2 := Lib.hid ht2
  have H3 := Lib.hid HL
  have H4 := Lib.hid hLL
  have L3 := Lib.hid l3
  have HR3 := Lib.hid hR3
  clear hnn hmm ht2 HL hLL l3 hR3 hmin
  have e2 : decide ((i : Int) = (j : Int)) = false := decide_eq_false (by omega)
  have e4 : decide ((j : Int) = (n : Int)) = false := decide_eq_false (by omega)
  have hin : i ≤ n := by omega
  have hjn : j ≤ n := by omega
  have hjI : (j : Int) ≤ (n : Int) := by omega
  have hiI : (i : Int) ≤ (n : Int) := by omega
  have hijI : (i : Int) ≤ (j : Int) := by omega
  have nj : ((n - j : Nat) : Int) = (n : Int) - (j : Int) := by omega
  have NJ := Lib.hid nj
  clear nj
  have hw1 : IntKind.i64.wrap ((i : Int) + (m : Int)) = (i : Int) + (m : Int) := by rw [IntKind.wrap_i64]; omega
  -- : IntKind.i64.wrap ((i : Int) + (m : Int) + ((n - j : Nat) : Int)) = (i : Int) + (m : Int) + ((n - j : Nat) : Int) := by rw [IntKind.wrap_i64]; omega
  -- : IntKind.i64.wrap ((i : Int) + (m : Int) + ((n : Int) - (j : Int))) = ((i + m + (n - j) : Nat) : Int) := by rw [IntKind.wrap_i64]; omega
  have hb1 : (0 : Int) ≤ (i : Int) + (m : Int) := by omega
  have htn : ((i : Int) + (m : Int)).toNat = i + m := by omega
  have hb4 : ¬ (cap = i) := by omega
  have hb5 : ¬ (cap = j) := by omega
  have hz1 : decide (((n : Int) = 0)) = false := decide_eq_false (by omega)
  have hc63 : cap ≤ 9223372036854775807 := by simp only [maxLen] at hcm; omega
  clear htot
  go_enter Try.func22, Try.ntmps22
  go_wp2
  go_region
  by_cases hlt : tot < n
  · have hR3 := HR3 hlt
    go_wp2
    go_region
    go_wp2
    go_ret
    refine repl_post (hg2.set c3) hcm ?_ H3 H4 (by omega) ?_ (.inl rfl) (turn_setRow hT2 (fun _ => by rfl) _)
    · rw [(L3 hlt).1]; omega
    · rw [(L3 hlt).2]; exact H2
  · obtain rfl : tot = n := by omega
    have hRc : ∀ a nc, (Builtin.clear_ #[39] 0 #[.slice a 0 nc]).run Try.prog W2 = .ok (.tuple #[]) W2 := fun a nc => clear_none W2 a nc 0
    by_cases hcn : cap = tot
    · subst hcn
      go_wp2
      go_region
      go_wp2
      go_ret
      exact repl_post hg2 hcm (by omega) H3 H4 (by omega) H2 (.inl rfl) hT2
    · go_wp2
      go_region
      go_wp2
      go_ret
      exact repl_post hg2 hcm (by omega) H3 H4 (by omega) H2 (.inl rfl) hT2

end Go.Proofs.Ytmhdcpkncaghpaa
