/- Own contracts: Find, Used, New. No statement is proved here. -/
import Derived.Test.YtmhdcpkncaghpaaFnd
namespace Go.Proofs.Ytmhdcpkncaghpaa
open Go.RowKit
set_option linter.unusedVariables false
set_option linter.unusedSimpArgs false

set_option maxHeartbeats 1600000 in
set_option maxRecDepth 100000 in
theorem find_any (w : World) (D P : Nat) (v : Value) (L : List (Nat × Nat)) (h : MapIn w D P v L) (hg : Good P 0 L) (hP : P ≤ 5000) (N : Nat) (hN : 0 < N) (hN2 : N < 9223372036854775808) :
    Calls Try.prog 10 #[.pointer (some ⟨D, 0, none⟩), .int .i64 (N : Int)] w (None w (.int .i64 (optI (fnd N P 0 L)))) := by
  have hlen := good_len0 hg
  have hget : ∀ i (hi : i < L.length), L[i].1 < L[i].2 ∧ L[i].2 ≤ P := fun i hi => (good_mem hg L[i] (List.getElem_mem _)).2
  have hdrop : ∀ i (hi : i < L.length) a, fnd N P a (L.drop i) = if a + N ≤ L[i].1 then some a else fnd N P L[i].2 (L.drop (i + 1)) := fun i hi a => by
    rw [List.drop_eq_getElem_cons hi]; rfl
  have c0 := h.cell0
  have c1 := h.cell1
  obtain ⟨av, cap, rfl⟩ := own_shape h.own
  have HH := Lib.hid h
  have HD := Lib.hid hdrop
  have HGT := Lib.hid hget
  obtain ⟨n, hn⟩ : ∃ n, L.length = n := ⟨_, rfl⟩
  obtain ⟨s, hs⟩ : ∃ s, fnd N P 0 L = s := ⟨_, rfl⟩
  rw [hs]
  rw [hn] at c1 hlen
  have HNN := Lib.hid hn
  have HX := Lib.hid hs
  have hN1 : ¬ ((N : Int) < 1) := by omega
  clear h hdrop hget hn hs
  go_enter Try.func10, Try.ntmps10
  go_wp2
  go_loopw [5, 19] (fun lv iv wr => ∃ i a : Nat, i ≤ n ∧ a ≤ P ∧ iv = .int .i64 (i : Int) ∧ lv = .int .i64 (a : Int) ∧ fnd N P a (L.drop i) = s ∧ Turn (fun _ => False) w wr) (fun _ iv _ => (n - intOf iv).toNat)
  case atStart => exact ⟨0, 0, Nat.zero_le _, Nat.zero_le _, rfl, rfl, by simpa using HX.out, Turn.refl _ _⟩
  case round =>
    obtain ⟨i, a, hi, ha, rfl, rfl, hf, T⟩ := hrel
    have hT := Lib.hid T
    have HF := Lib.hid hf
    clear hf
    by_cases hlt : i < n
    · have hiL : i < L.length := by rw [HNN.out]; exact hlt
      obtain ⟨k2, k3⟩ := HGT.out i hiL
      have k1 := HD.out i hiL a
      obtain ⟨g, cap', he, e1, e2⟩ := own_get (HH.out.none T).own hiL
      cases he
      obtain ⟨x, hx⟩ : ∃ x, L[i].1 = x := ⟨_, rfl⟩
      obtain ⟨y, hy⟩ : ∃ y, L[i].2 = y := ⟨_, rfl⟩
      rw [hx, hy] at k1 k2
      rw [hy] at k3 e2
      rw [hx] at e1
      have K1 := Lib.hid k1
      clear k1 hx hy T
      by_cases hc : a + N ≤ x
      · have hs : s = some a := by rw [← HF.out, K1.out, if_pos hc]
        have HS := Lib.hid hs
        clear hs
        have hcI : (N : Int) ≤ (x : Int) - (a : Int) := by omega
        go_wp2
        go_ret
        exact ⟨by rw [HS.out]; rfl, hT.out.alloc _⟩
      · have hcI : ¬ ((N : Int) ≤ (x : Int) - (a : Int)) := by omega
        go_wp2
        go_roundw
        case measure => simp [intOf]; omega
        case rel => exact ⟨i + 1, y, by omega, k3, by simp, rfl, by have := K1.out; rw [if_neg hc] at this; rw [← this]; exact HF.out, hT.out.alloc _⟩
    · have : i = n := by omega
      subst this
      have hfin : (L.drop i) = [] := List.drop_of_length_le (by rw [HNN.out]; exact Nat.le_refl _)
      have hs : s = if a + N ≤ P then some a else none := by rw [← HF.out, hfin]; rfl
      have HS := Lib.hid hs
      clear hs hfin
      have c0' := (HH.out.none T).cell0
      by_cases hc : a + N ≤ P
      · have hcI : (N : Int) ≤ (P : Int) - (a : Int) := by omega
        go_wp2
        go_ret
        exact ⟨by rw [HS.out, if_pos hc]; rfl, hT.out⟩
      · have hcI : ¬ ((N : Int) ≤ (P : Int) - (a : Int)) := by omega
        go_wp2
        go_ret
        exact ⟨by rw [HS.out, if_neg hc]; rfl, hT.out⟩

set_option maxHeartbeats 1600000 in
set_option maxRecDepth 100000 in
theorem find_low (w : World) (D : Nat) (n : Int) (hn : n < 1) (hn2 : -9223372036854775808 ≤ n) : Calls Try.prog 10 #[.pointer (some ⟨D, 0, none⟩), .int .i64 n] w (None w (.int .i64 (-1))) := by
  go_enter Try.func10, Try.ntmps10
  go_wp2
  go_ret
  exact ⟨rfl, Turn.refl _ _⟩

def headB (p : Int) : List (Nat × Nat) → Bool
  | [] => false
  | s :: _ => decide ((s.1 : Int) ≤ p)
set_option maxHeartbeats 1600000 in
set_option maxRecDepth 100000 in
theorem used_any (w : World) (D P : Nat) (v : Value) (L : List (Nat × Nat)) (h : MapIn w D P v L) (hg : Good P 0 L) (hP : P ≤ 5000) (p : Int) (hp : -9223372036854775808 ≤ p ∧ p < 9223372036854775808) :
    Calls Try.prog 13 #[.pointer (some ⟨D, 0, none⟩), .int .i64 p] w (None w (.bool (decide (0 ≤ p) && usedB L p.toNat))) := by
  have hlen := good_len0 hg
  obtain ⟨A, B, hL, hA, hB⟩ := good_split p hg
  have hbeh := behind_any w D P v L A B p h (by omega) hL hA hB
  have HB := Lib.hid hbeh
  have hans : (decide (0 ≤ p) && usedB L p.toNat) = headB p B := by
    rw [hL, used_app]
    rw [hL] at hg
    obtain ⟨gA, gB⟩ := (good_app P A B 0).1 hg
    by_cases h0 : 0 ≤ p
    · rw [used_ends (a := p.toNat) (fun r hr => by have := hA r hr; omega) (Nat.le_refl _), decide_eq_true h0]
      cases B with
      | nil => rfl
      | cons s B0 =>
        have h1 := hB s (by simp)
        rw [used_cons, used_lo gB.2.2.2 (by omega)]
        have hin : inR s p.toNat = decide ((s.1 : Int) ≤ p) := by
          unfold inR
          by_cases hc : (s.1 : Int) ≤ p
          · rw [decide_eq_true hc, decide_eq_true (by omega)]
          · rw [decide_eq_false hc, decide_eq_false (by omega)]
        rw [hin]
        simp [headB]
    · rw [decide_eq_false h0]
      cases B with
      | nil => rfl
      | cons s B0 => simp [headB]; omega
  rw [hans]
  clear hans hbeh
  obtain ⟨av, cap, hv⟩ := own_shape h.own
  have c1 := h.cell1
  have HH := Lib.hid h
  have hABn : L.length = A.length + B.length := by rw [hL, List.length_append]
  cases B with
  | nil =>
    have hAn : A.length = L.length := by simpa using hABn.symm
    rw [hAn] at HB
    obtain ⟨n, hn⟩ : ∃ n, L.length = n := ⟨_, rfl⟩
    rw [hn] at hv HB
    show Calls Try.prog 13 #[.pointer (some ⟨D, 0, none⟩), .int .i64 p] w (None w (.bool false))
    clear h hL hA hB hABn hAn hn hg
    go_enter Try.func13, Try.ntmps13
    go_wp2_with fail
    refine HB.out.mono ?_
    rintro e w1 ⟨rfl, T⟩
    have d1 := (HH.out.none T).cell1
    rw [hv] at d1
    clear hv
    go_wp2
    go_ret
    exact ⟨rfl, T⟩
  | cons s B0 =>
    have hiL : A.length < L.length := by rw [hABn]; simp
    have hget : L[A.length] = s := by subst hL; simp
    have hcell : ∀ wr, Turn (fun _ => False) w wr → ∃ g, av = some ⟨g, 0, none⟩ ∧ wr.cell? ⟨g, A.length * 2, none⟩ = some (.int .i64 (s.1 : Int)) := fun wr T => by
      obtain ⟨g, cap', he, e1, e2⟩ := own_get (h.none T).own hiL
      rw [hv] at he
      cases he
      rw [hget] at e1
      exact ⟨g, rfl, e1⟩
    obtain ⟨x, hx⟩ : ∃ x, s.1 = x := ⟨_, rfl⟩
    rw [hx] at hcell
    have hgo : headB p (s :: B0) = decide ((x : Int) ≤ p) := by rw [← hx]; rfl
    rw [hgo]
    clear hgo
    obtain ⟨n, hn⟩ : ∃ n, L.length = n := ⟨_, rfl⟩
    obtain ⟨i, hi⟩ : ∃ i, A.length = i := ⟨_, rfl⟩
    rw [hn] at hv hiL hlen
    rw [hi] at HB hiL hcell
    have HC := Lib.hid hcell
    obtain ⟨b, hb⟩ : ∃ b, b = decide ((x : Int) ≤ p) := ⟨_, rfl⟩
    rw [← hb]
    have HBB := Lib.hid hb
    clear h hL hA hB hABn hn hg hcell hget hx hi hb
    go_enter Try.func13, Try.ntmps13
    go_wp2_with fail
    refine HB.out.mono ?_
    rintro e w1 ⟨rfl, T⟩
    have d1 := (HH.out.none T).cell1
    obtain ⟨g, hav, e1⟩ := HC.out _ T
    rw [hv, hav] at d1
    clear hv hav
    have hI : (i : Int) < (n : Int) := by omega
    go_wp2
    go_ret
    exact ⟨by rw [HBB.out]; rfl, T⟩

set_option maxHeartbeats 1600000 in
set_option maxRecDepth 100000 in
theorem new_any (w : World) (n : Int) (hn : -9223372036854775808 ≤ n ∧ n < 9223372036854775808) :
    Calls Try.prog 9 #[.int .i64 n] w (fun e w' => e = .returned (.pointer (some ⟨w.heap.size, 0, none⟩)) ∧ MapIn w' w.heap.size n.toNat (.slice none 0 0) [] ∧ Turn (fun _ => False) w w') := by
  obtain ⟨m, hm⟩ : ∃ m : Nat, m = n.toNat := ⟨_, rfl⟩
  have hmax : max n 0 = (m : Int) := by omega
  rw [← hm]
  clear hm
  go_enter Try.func9, Try.ntmps9
  go_wp2
  go_ret
  exact ⟨rfl, ⟨heap_alloc_new w _, World.ownsRow_nil _ _ _ _, by intro h; cases h⟩, (Turn.refl _ w).alloc _⟩
end Go.Proofs.Ytmhdcpkncaghpaa
