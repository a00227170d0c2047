/- Own texts, packed: EFree. -/
import Derived.Test.YtboofamenpcnhaaGreatDoorQ11
import Derived.Test.YtboofamenpcnhaaGreatDoorQ12
/- Own contracts: Free; what the laws ask of a map. No statement is proved here. -/
namespace Go.Proofs.YtboofamenpcnhaaGreatDoor
set_option maxRecDepth 100000
open Go.RowKit
set_option linter.unusedVariables false
set_option linter.unusedSimpArgs false

set_option maxHeartbeats 1600000 in
set_option maxRecDepth 100000 in
theorem free_yes (w : World) (F : Nat → Prop) (D P : Nat) (U : Nat → Bool) (h : MapU w F D P U) (hP : P ≤ 5000) (a n : Nat) (han : a + n ≤ P) (hfr : ∀ p, a ≤ p → p < a + n → U p = true) :
    Calls Tryz.prog 40 #[.pointer (some ⟨D, 0, none⟩), .int .i64 (a : Int), .int .i64 (n : Int)] w (fun e w' => e = .returned (.bool true) ∧ ∃ F', Grow w F w' F' ∧ MapU w' F' D P (fun p => U p && !inR (a, a + n) p)) := by
  obtain ⟨v, L, h1, h2, h3, h4⟩ := h
  have hhas := has_anyE w D P v L h1 a n (by omega) (by omega) (by omega)
  rw [decide_eq_true (show (0 : Int) ≤ (n : Int) ∧ (0 : Int) ≤ (a : Int) ∧ (a : Int) ≤ (P : Int) ∧ (n : Int) ≤ (P : Int) - (a : Int) by omega)] at hhas
  by_cases h0 : n = 0
  · subst h0
    have hsame : ∃ F' : Nat → Prop, ∀ w', Turn (fun _ => False) w w' → Grow w F w' F' ∧ MapU w' F' D P (fun p => U p && !inR (a, a + 0) p) := by
      refine ⟨F, fun w' T => ⟨Grow.same T, v, L, h1.none T, h2, fun p => ?_, h4⟩⟩
      show usedB L p = (U p && !inR (a, a + 0) p)
      rw [h3, inR_false (by show p < a ∨ a + 0 ≤ p; omega)]; simp
    have HS := Lib.hid hsame
    clear hsame h1 h2 h3 h4
    go_enter Tryz.func40, Tryz.ntmps40
    go_wp2_with fail
    refine hhas.mono ?_
    rintro e w1 ⟨rfl, T⟩
    go_wp2_with fail
    go_ret
    obtain ⟨F', hF'⟩ := HS.out
    exact ⟨rfl, F', hF' _ T⟩
  · obtain ⟨A, B, hL, hA, hB⟩ := good_split (a : Int) h2
    subst hL
    have hlen := good_len0 h2
    have hBs : ∃ s B0, B = s :: B0 ∧ s.1 ≤ a ∧ a + n ≤ s.2 := by
      have hua := hfr a (Nat.le_refl _) (by omega)
      rw [← h3, used_app, used_ends (a := a) hA (Nat.le_refl _)] at hua
      cases B with
      | nil => simp [usedB] at hua
      | cons s B0 =>
        have hgs := ((good_app P A (s :: B0) 0).1 h2).2
        have hs2 := hB s (by simp)
        rw [used_cons, used_lo hgs.2.2.2 (by omega)] at hua
        have hs1 : s.1 ≤ a := by
          simp [inR] at hua
          exact hua.1
        refine ⟨s, B0, rfl, hs1, ?_⟩
        apply Decidable.byContradiction
        intro hc
        have := hfr s.2 (by omega) (by omega)
        rw [← h3, used_app, used_ends (a := a) hA (by omega), used_cons, inR_false (.inr (Nat.le_refl _)), used_lo hgs.2.2.2 (by omega)] at this
        cases this
    obtain ⟨s, B0, rfl, hs1, hs2⟩ := hBs
    obtain ⟨gg, gu⟩ := cut_good (e := a + n) h2 hs1 hs2 (by omega)
    have hLL : (A ++ s :: B0).take A.length ++ lefts s a (a + n) ++ (A ++ s :: B0).drop (A.length + 1) = A ++ lefts s a (a + n) ++ B0 := by rw [tk_all, dr_1]
    have hfin : ∀ w1, Turn (fun _ => False) w w1 → ∀ w', MPost w1 D P v (A ++ lefts s a (a + n) ++ B0) w' → ∃ F', Grow w F w' F' ∧ MapU w' F' D P (fun p => U p && !inR (a, a + n) p) := fun w1 T w' hm => by
      obtain ⟨F', g1, g2⟩ := mpost_u (h1.none T) h4 hm gg (fun p => (gu p).trans (by rw [h3]))
      exact ⟨F', (Grow.same T).trans g1, g2⟩
    have hbeh : ∀ w1, Turn (fun _ => False) w w1 → Calls Tryz.prog 74 #[.pointer (some ⟨D, 0, none⟩), .int .i64 (a : Int)] w1 (None w1 (.int .i64 (A.length : Int))) := fun w1 T => behind_any w1 D P v _ A _ a (h1.none T) (by omega) rfl hA hB
    have hcut : ∀ w1, Turn (fun _ => False) w w1 → Calls Tryz.prog 75 #[.pointer (some ⟨D, 0, none⟩), .int .i64 (A.length : Int), .agg #[.int .i64 (a : Int), .int .i64 ((a : Int) + (n : Int))]] w1 (fun en w' => en = .returned (.tuple #[]) ∧ MPost w1 D P v (A ++ lefts s a (a + n) ++ B0) w') := fun w1 T => by
      have := cut_any w1 D P v (A ++ s :: B0) A.length a (a + n) (h1.none T) (by omega) (by simp)
      rw [get_mid, hLL] at this
      exact this
    have hcell : ∀ w1, Turn (fun _ => False) w w1 → ∃ g cap, w1.cell? ⟨D, 1, none⟩ = some (.slice (some ⟨g, 0, none⟩) (A.length + (B0.length + 1)) cap) ∧ w1.cell? ⟨g, A.length * 2, none⟩ = some (.int .i64 (s.1 : Int)) ∧ w1.cell? ⟨g, A.length * 2 + 1, none⟩ = some (.int .i64 (s.2 : Int)) := fun w1 T => by
      have c1 := (h1.none T).cell1
      obtain ⟨g, cap', he, e1, e2⟩ := own_get (h1.none T).own (i := A.length) (by simp)
      rw [he] at c1
      rw [get_mid] at e1 e2
      simp only [List.length_append, List.length_cons] at c1
      exact ⟨g, _, c1, e1, e2⟩
    have HF := Lib.hid hfin
    have HB := Lib.hid hbeh
    have HI := Lib.hid hcut
    have hn0 : ((n : Int) == 0) = false := by rw [beq_eq_false_iff_ne]; omega
    obtain ⟨x, hx⟩ : ∃ x, s.1 = x := ⟨_, rfl⟩
    obtain ⟨y, hy⟩ : ∃ y, s.2 = y := ⟨_, rfl⟩
    obtain ⟨m, hm⟩ : ∃ m, A.length = m := ⟨_, rfl⟩
    obtain ⟨b, hb⟩ : ∃ b, B0.length = b := ⟨_, rfl⟩
    simp only [List.length_append, List.length_cons] at hlen
    rw [hx] at hs1 hcell
    rw [hy] at hs2 hcell
    rw [hm] at HB HI hcell hlen
    rw [hb] at hcell hlen
    have HC := Lib.hid hcell
    clear hfin hbeh hcut hcell h1 h2 h3 h4 hA hB gg gu hfr hx hy hm hb hLL
    go_enter Tryz.func40, Tryz.ntmps40
    go_wp2_with fail
    refine hhas.mono ?_
    rintro e w1 ⟨rfl, T1⟩
    go_wp2_with fail
    refine (HB.out w1 T1).mono ?_
    rintro e w2 ⟨rfl, T2'⟩
    have T2 := T1.trans T2' (fun _ _ => id)
    obtain ⟨g, cap, c1, e1, e2⟩ := HC.out w2 T2
    have hlt : ((m : Int) == ((m + (b + 1) : Nat) : Int)) = false := by rw [beq_eq_false_iff_ne]; omega
    have hlt2 : ((m : Int) == (m : Int) + ((b : Int) + 1)) = false := by rw [beq_eq_false_iff_ne]; omega
    have hlt3 : ¬ ((m : Int) = (m : Int) + ((b : Int) + 1)) := by omega
    have hlt4 : m < m + (b + 1) := by omega
    have hge : ¬ ((a : Int) < (x : Int)) := by omega
    have hge2 : ¬ ((y : Int) < (a : Int) + (n : Int)) := by omega
    go_wp2_with fail
    refine (HI.out w2 T2).mono ?_
    rintro e w3 ⟨rfl, m3⟩
    go_wp2_with fail
    go_ret
    exact ⟨rfl, HF.out w2 T2 _ m3⟩

set_option maxHeartbeats 1600000 in
set_option maxRecDepth 100000 in
theorem free_no (w : World) (F : Nat → Prop) (D P : Nat) (U : Nat → Bool) (h : MapU w F D P U) (hP : P ≤ 5000) (a n : Int) (ha : -9223372036854775808 ≤ a ∧ a < 9223372036854775808) (hn : -9223372036854775808 ≤ n ∧ n < 9223372036854775808)
    (hno : ¬ (0 ≤ n ∧ 0 ≤ a ∧ a ≤ P ∧ n ≤ P - a ∧ ∀ p : Nat, a ≤ p → p < a + n → U p = true)) :
    Calls Tryz.prog 40 #[.pointer (some ⟨D, 0, none⟩), .int .i64 a, .int .i64 n] w (None w (.bool false)) := by
  obtain ⟨v, L, h1, h2, h3, h4⟩ := h
  have hhas := has_anyE w D P v L h1 a n (by omega) ha hn
  by_cases hc : 0 ≤ n ∧ 0 ≤ a ∧ a ≤ P ∧ n ≤ P - a
  · rw [decide_eq_true hc] at hhas
    obtain ⟨a, rfl⟩ := Int.eq_ofNat_of_zero_le hc.2.1
    obtain ⟨n, rfl⟩ := Int.eq_ofNat_of_zero_le hc.1
    obtain ⟨A, B, hL, hA, hB⟩ := good_split (a : Int) h2
    subst hL
    have hlen := good_len0 h2
    have hn0 : n ≠ 0 := fun e => hno ⟨hc.1, hc.2.1, hc.2.2.1, hc.2.2.2, fun p _ _ => by omega⟩
    have hBs : ∀ s B0, B = s :: B0 → a < s.1 ∨ s.2 < a + n := fun s B0 e => by
      subst e
      apply Classical.byContradiction
      intro hx
      apply hno
      refine ⟨hc.1, hc.2.1, hc.2.2.1, hc.2.2.2, fun p p1 p2 => ?_⟩
      rw [← h3, used_app, used_cons, inR_true (by omega) (by omega)]
      simp
    have hbeh : ∀ w1, Turn (fun _ => False) w w1 → Calls Tryz.prog 74 #[.pointer (some ⟨D, 0, none⟩), .int .i64 (a : Int)] w1 (None w1 (.int .i64 (A.length : Int))) := fun w1 T => behind_any w1 D P v _ A _ a (h1.none T) (by omega) rfl hA hB
    have hcell : ∀ w1, Turn (fun _ => False) w w1 → ∃ av cap, w1.cell? ⟨D, 1, none⟩ = some (.slice av (A.length + B.length) cap) ∧ (∀ s B0, B = s :: B0 → ∃ g, av = some ⟨g, 0, none⟩ ∧ w1.cell? ⟨g, A.length * 2, none⟩ = some (.int .i64 (s.1 : Int)) ∧ w1.cell? ⟨g, A.length * 2 + 1, none⟩ = some (.int .i64 (s.2 : Int))) := fun w1 T => by
      obtain ⟨av, cap, hv⟩ := own_shape h1.own
      have c1 := (h1.none T).cell1
      rw [hv, List.length_append] at c1
      refine ⟨av, cap, c1, fun s B0 hs => ?_⟩
      subst hs
      obtain ⟨g, cap', he, e1, e2⟩ := own_get (h1.none T).own (i := A.length) (by simp)
      rw [hv] at he
      cases he
      rw [get_mid] at e1 e2
      exact ⟨g, rfl, e1, e2⟩
    have HB := Lib.hid hbeh
    have HC := Lib.hid hcell
    have HBS := Lib.hid hBs
    have hn1 : ((n : Int) == 0) = false := by rw [beq_eq_false_iff_ne]; omega
    rw [List.length_append] at hlen
    clear hbeh hcell hBs h1 h2 h3 h4 hA hB hno
    go_enter Tryz.func40, Tryz.ntmps40
    go_wp2_with fail
    refine hhas.mono ?_
    rintro e w1 ⟨rfl, T1⟩
    go_wp2_with fail
    refine (HB.out w1 T1).mono ?_
    rintro e w2 ⟨rfl, T2'⟩
    have T2 := T1.trans T2' (fun _ _ => id)
    obtain ⟨av, cap, c1, c2⟩ := HC.out w2 T2
    cases B with
    | nil =>
      simp only [List.length_nil, Nat.add_zero] at c1
      clear c2
      obtain ⟨m, hm⟩ : ∃ m, A.length = m := ⟨_, rfl⟩
      rw [hm] at c1 ⊢
      clear hm
      go_wp2_with fail
      go_ret
      exact ⟨rfl, T2⟩
    | cons s B0 =>
      obtain ⟨g, rfl, e1, e2⟩ := c2 s B0 rfl
      have hsx := HBS.out s B0 rfl
      obtain ⟨x, hx⟩ : ∃ x, s.1 = x := ⟨_, rfl⟩
      obtain ⟨y, hy⟩ : ∃ y, s.2 = y := ⟨_, rfl⟩
      rw [hx] at hsx e1
      rw [hy] at hsx e2
      obtain ⟨m, hm⟩ : ∃ m, A.length = m := ⟨_, rfl⟩
      obtain ⟨b, hb⟩ : ∃ b, (s :: B0).length = b + 1 := ⟨_, rfl⟩
      rw [hm] at c1 e1 e2 hlen ⊢
      rw [hb] at c1 hlen
      clear hm hx hy hb c2
      have hlt : ((m : Int) == ((m + (b + 1) : Nat) : Int)) = false := by rw [beq_eq_false_iff_ne]; omega
      have hlt2 : ((m : Int) == (m : Int) + ((b : Int) + 1)) = false := by rw [beq_eq_false_iff_ne]; omega
      have hlt3 : ¬ ((m : Int) = (m : Int) + ((b : Int) + 1)) := by omega
      have hlt4 : m < m + (b + 1) := by omega
      by_cases hq : a < x
      · have hge : (a : Int) < (x : Int) := by omega
        clear hsx
        go_wp2_with fail
        go_ret
        exact ⟨rfl, T2⟩
      · have hge : ¬ ((a : Int) < (x : Int)) := by omega
        have hge2 : (y : Int) < (a : Int) + (n : Int) := by omega
        clear hsx
        go_wp2_with fail
        go_ret
        exact ⟨rfl, T2⟩
  · rw [decide_eq_false hc] at hhas
    clear h1 h2 h3 h4 hc hno
    go_enter Tryz.func40, Tryz.ntmps40
    go_wp2_with fail
    refine hhas.mono ?_
    rintro e w1 ⟨rfl, T⟩
    go_wp2_with fail
    go_ret
    exact ⟨rfl, T⟩

theorem left_h (w : World) (F : Nat → Prop) (D P : Nat) (U : Nat → Bool) (h : MapU w F D P U) (hP : P ≤ 5000) : Calls Tryz.prog 38 #[.pointer (some ⟨D, 0, none⟩)] w (None w (.int .i64 ((cnt (fun p => !U p) P : Nat) : Int))) := by
  obtain ⟨v, L, h1, h2, h3, h4⟩ := h
  have := left_any w D P v L h1 h2 hP
  have e : P - sumR L = cnt (fun p => !U p) P := by
    have a := cnt_used h2
    have b := cnt_not U P
    have c : cnt (usedB L) P = cnt U P := cnt_congr (fun p _ => h3 p)
    omega
  rw [e] at this
  exact this
theorem find_h (w : World) (F : Nat → Prop) (D P : Nat) (U : Nat → Bool) (h : MapU w F D P U) (hP : P ≤ 5000) (N : Nat) (hN : 0 < N) (hN2 : N < 9223372036854775808) (o : Option Nat) (ho : Least U P N o) : Calls Tryz.prog 30 #[.pointer (some ⟨D, 0, none⟩), .int .i64 (N : Int)] w (None w (.int .i64 (optI o))) := by
  obtain ⟨v, L, h1, h2, h3, h4⟩ := h
  have := find_any w D P v L h1 h2 hP N hN hN2
  rw [least_one (least_eq h3 (fnd_least hN h2)) ho] at this
  exact this
theorem MapU.hi {w : World} {F : Nat → Prop} {D P : Nat} {U : Nat → Bool} (h : MapU w F D P U) {p : Nat} (hp : P ≤ p) : U p = false := by
  obtain ⟨v, L, h1, h2, h3, h4⟩ := h
  rw [← h3]; exact used_hi h2 hp
theorem MapU.congr {w : World} {F : Nat → Prop} {D P : Nat} {U V : Nat → Bool} (h : MapU w F D P U) (e : ∀ p, p < P → U p = V p) (hV : ∀ p, P ≤ p → V p = false) : MapU w F D P V := by
  have hh := h
  obtain ⟨v, L, h1, h2, h3, h4⟩ := h
  refine ⟨v, L, h1, h2, fun p => ?_, h4⟩
  by_cases hp : p < P
  · rw [h3, e p hp]
  · rw [hV p (by omega), h3]; exact hh.hi (by omega)
theorem new_hE (w : World) (n : Int) (hn : -9223372036854775808 ≤ n ∧ n < 9223372036854775808) :
    Calls Tryz.prog 49 #[.int .i64 n] w (fun e w' => ∃ D F, e = .returned (.pointer (some ⟨D, 0, none⟩)) ∧ MapU w' F D n.toNat (fun _ => false) ∧ (∀ k, F k → w.heap.size ≤ k) ∧ Turn (fun _ => False) w w') := by
  refine (new_anyE w n hn).mono ?_
  rintro e w' ⟨rfl, h1, h2⟩
  refine ⟨w.heap.size, fun k => k = w.heap.size ∨ (Value.slice none 0 0).ownBlock = some k, rfl, ⟨_, [], h1, trivial, fun _ => rfl, fun _ => Iff.rfl⟩, fun k hk => ?_, h2⟩
  rcases hk with rfl | hk
  · exact Nat.le_refl _
  · cases hk
end Go.Proofs.YtboofamenpcnhaaGreatDoor
