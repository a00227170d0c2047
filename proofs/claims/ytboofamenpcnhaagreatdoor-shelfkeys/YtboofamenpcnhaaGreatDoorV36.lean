/- Own texts, packed: Q11, Q12, Q13. -/
import Derived.Test.YtboofamenpcnhaaGreatDoorV32
import Derived.Test.YtboofamenpcnhaaGreatDoorV33
import Derived.Test.YtboofamenpcnhaaGreatDoorV34
import Derived.Test.YtboofamenpcnhaaGreatDoorV35
namespace Go.Proofs.YtboofamenpcnhaaGreatDoor
set_option maxRecDepth 100000
open Go.RowKit
set_option linter.unusedVariables false
set_option linter.unusedSimpArgs false
theorem get_last (A0 B : List (Nat × Nat)) (q : Nat × Nat) (h : A0.length < (A0 ++ [q] ++ B).length) : (A0 ++ [q] ++ B)[A0.length] = q := by simp
theorem get_mid (A B0 : List (Nat × Nat)) (s : Nat × Nat) (h : A.length < (A ++ s :: B0).length) : (A ++ s :: B0)[A.length] = s := by simp
/-- All of insert. -/
theorem insert_any' (w : World) (D P : Nat) (v : Value) (A B : List (Nat × Nat)) (a e : Nat) (h : MapIn w D P v (A ++ B)) (hb : (A ++ B).length ≤ 6000) :
    Calls Tryz.prog 86 #[.pointer (some ⟨D, 0, none⟩), .int .i64 (A.length : Int), .agg #[.int .i64 (a : Int), .int .i64 (e : Int)]] w (fun en w' => en = .returned (.tuple #[]) ∧ MPost w D P v (glue A B a e) w') := by
  have hi : A.length ≤ (A ++ B).length := by simp
  unfold glue
  rcases rgt_cases B e with ⟨n2, a2, l2⟩ | ⟨s, B0, rfl, hs, n2, a2⟩
  · rw [n2, a2, Nat.add_zero]
    rcases lft_cases A a with ⟨n1, a1, l1⟩ | ⟨A0, q, rfl, hq, n1, a1⟩
    · rw [n1, a1]
      cases hl : A.getLast? with
      | none =>
        rw [List.getLast?_eq_none_iff] at hl
        subst hl
        cases B with
        | nil => exact insert_00 w D P v ([] ++ []) 0 0 a e h hb hi rfl rfl
        | cons s B0 => exact insert_01 w D P v ([] ++ s :: B0) 0 0 a e h hb hi rfl (by simp) (l2 s B0 rfl)
      | some q =>
        have hne := l1 q hl
        obtain ⟨A0, rfl⟩ := List.getLast?_eq_some_iff.1 hl
        cases B with
        | nil => exact insert_10 w D P v (A0 ++ [q] ++ []) (A0 ++ [q]).length A0.length a e h hb hi (by simp) (by simp) (by rw [get_last]; exact hne) (by simp)
        | cons s B0 => exact insert_11 w D P v (A0 ++ [q] ++ s :: B0) (A0 ++ [q]).length A0.length a e h hb hi (by simp) (by simp) (by rw [get_last]; exact hne) (by simp) (by rw [get_mid (A0 ++ [q])]; exact l2 s B0 rfl)
    · rw [n1, a1]
      cases B with
      | nil =>
        have := insert_20 w D P v (A0 ++ [q] ++ []) (A0 ++ [q]).length A0.length a e h hb hi (by simp) (by simp) (by rw [get_last]; exact hq) (by simp)
        rw [get_last] at this
        exact this
      | cons s B0 =>
        have := insert_21 w D P v (A0 ++ [q] ++ s :: B0) (A0 ++ [q]).length A0.length a e h hb hi (by simp) (by simp) (by rw [get_last]; exact hq) (by simp) (by rw [get_mid (A0 ++ [q])]; exact l2 s B0 rfl)
        rw [get_last] at this
        exact this
  · rw [n2, a2]
    rcases lft_cases A a with ⟨n1, a1, l1⟩ | ⟨A0, q, rfl, hq, n1, a1⟩
    · rw [n1, a1]
      cases hl : A.getLast? with
      | none =>
        rw [List.getLast?_eq_none_iff] at hl
        subst hl
        exact insert_02 w D P v ([] ++ s :: B0) 0 0 a e h hb hi rfl (by simp) hs
      | some q =>
        have hne := l1 q hl
        obtain ⟨A0, rfl⟩ := List.getLast?_eq_some_iff.1 hl
        have := insert_12 w D P v (A0 ++ [q] ++ s :: B0) (A0 ++ [q]).length A0.length a e h hb hi (by simp) (by simp) (by rw [get_last]; exact hne) (by simp) (by rw [get_mid (A0 ++ [q])]; exact hs)
        rw [get_mid (A0 ++ [q])] at this
        exact this
    · rw [n1, a1]
      have := insert_22 w D P v (A0 ++ [q] ++ s :: B0) (A0 ++ [q]).length A0.length a e h hb hi (by simp) (by simp) (by rw [get_last]; exact hq) (by simp) (by rw [get_mid (A0 ++ [q])]; exact hs)
      rw [get_mid (A0 ++ [q]), get_last] at this
      exact this
/-- A map that tells which places are taken, and where it lies. -/
def MapU (w : World) (F : Nat → Prop) (D P : Nat) (U : Nat → Bool) : Prop := ∃ v L, MapIn w D P v L ∧ Good P 0 L ∧ (∀ p, usedB L p = U p) ∧ (∀ k, F k ↔ (k = D ∨ v.ownBlock = some k))
def Grow (w : World) (F : Nat → Prop) (w' : World) (F' : Nat → Prop) : Prop := Turn F w w' ∧ ∀ k, k < w.heap.size → F' k → F k
theorem Grow.same {w w' : World} {F : Nat → Prop} (T : Turn (fun _ => False) w w') : Grow w F w' F := ⟨T.mono (fun _ _ h => h.elim), fun _ _ h => h⟩
theorem Grow.trans {a b c : World} {F G H : Nat → Prop} (h : Grow a F b G) (k : Grow b G c H) : Grow a F c H :=
  ⟨h.1.trans k.1 (fun i hi hG => h.2 i hi hG), fun i hi hH => h.2 i hi (k.2 i (Nat.lt_of_lt_of_le hi h.1.size) hH)⟩
theorem MapU.none {w w' : World} {F : Nat → Prop} {D P : Nat} {U : Nat → Bool} (h : MapU w F D P U) (T : Turn (fun _ => False) w w') : MapU w' F D P U := by
  obtain ⟨v, L, h1, h2, h3, h4⟩ := h
  exact ⟨v, L, h1.none T, h2, h3, h4⟩
theorem MapU.lt {w : World} {F : Nat → Prop} {D P : Nat} {U : Nat → Bool} (h : MapU w F D P U) : ∀ k, F k → k < w.heap.size := fun k hk => by
  obtain ⟨v, L, h1, h2, h3, h4⟩ := h
  rcases (h4 k).1 hk with rfl | hk
  · exact h1.lt
  · exact (h1.own.lt k hk).2
/-- Others' blocks may turn. -/
theorem MapU.turn {w w' : World} {F S : Nat → Prop} {D P : Nat} {U : Nat → Bool} (h : MapU w F D P U) (T : Turn S w w') (hS : ∀ k, F k → ¬ S k) : MapU w' F D P U := by
  obtain ⟨v, L, h1, h2, h3, h4⟩ := h
  exact ⟨v, L, h1.turn T (hS D ((h4 D).2 (.inl rfl))) (fun k hk => hS k ((h4 k).2 (.inr hk))), h2, h3, h4⟩
theorem mpost_u {w w' : World} {F : Nat → Prop} {D P : Nat} {v : Value} {L L' : List (Nat × Nat)} {U : Nat → Bool} (h1 : MapIn w D P v L) (h4 : ∀ k, F k ↔ (k = D ∨ v.ownBlock = some k)) (hm : MPost w D P v L' w') (hg : Good P 0 L') (hu : ∀ p, usedB L' p = U p) :
    ∃ F', Grow w F w' F' ∧ MapU w' F' D P U := by
  obtain ⟨v', m1, m2, m3⟩ := hm
  refine ⟨fun k => k = D ∨ v'.ownBlock = some k, ⟨m3.mono (fun k _ hk => (h4 k).2 hk), fun k hk hF => ?_⟩, v', L', m1, hg, hu, fun k => Iff.rfl⟩
  rcases hF with rfl | hF
  · exact (h4 k).2 (.inl rfl)
  · exact (h4 k).2 (.inr (m2.old hF hk))
set_option maxHeartbeats 1600000 in
set_option maxRecDepth 100000 in
theorem take_yes (w : World) (F : Nat → Prop) (D P : Nat) (U : Nat → Bool) (h : MapU w F D P U) (hP : P ≤ 5000) (a n : Nat) (han : a + n ≤ P) (hfr : ∀ p, a ≤ p → p < a + n → U p = false) :
    Calls Tryz.prog 64 #[.pointer (some ⟨D, 0, none⟩), .int .i64 (a : Int), .int .i64 (n : Int)] w (fun e w' => e = .returned (.bool true) ∧ ∃ F', Grow w F w' F' ∧ MapU w' F' D P (fun p => U p || inR (a, a + n) p)) := by
  obtain ⟨v, L, h1, h2, h3, h4⟩ := h
  have hhas := has_anyE w D P v L h1 a n (by omega) (by omega) (by omega)
  rw [decide_eq_true (show (0 : Int) ≤ (n : Int) ∧ (0 : Int) ≤ (a : Int) ∧ (a : Int) ≤ (P : Int) ∧ (n : Int) ≤ (P : Int) - (a : Int) by omega)] at hhas
  by_cases h0 : n = 0
  · subst h0
    have hsame : ∃ F' : Nat → Prop, ∀ w', Turn (fun _ => False) w w' → Grow w F w' F' ∧ MapU w' F' D P (fun p => U p || inR (a, a + 0) p) := by
      refine ⟨F, fun w' T => ⟨Grow.same T, v, L, h1.none T, h2, fun p => ?_, h4⟩⟩
      show usedB L p = (U p || inR (a, a + 0) p)
      rw [h3, inR_false (by show p < a ∨ a + 0 ≤ p; omega)]; simp
    have HS := Lib.hid hsame
    clear hsame h1 h2 h3 h4
    go_enter Tryz.func64, Tryz.ntmps64
    go_wp2_with fail
    refine hhas.mono ?_
    rintro e w1 ⟨rfl, T⟩
    go_wp2_with fail
    go_ret
    obtain ⟨F', hF'⟩ := HS.out
    exact ⟨rfl, F', hF' _ T⟩
  · obtain ⟨A, B, hL, hA, hB⟩ := good_split (a : Int) h2
    subst hL
    have hlen := good_len0 h2
    have hBs : ∀ s B0, B = s :: B0 → a + n ≤ s.1 := fun s B0 hs => by
      subst hs
      apply Decidable.byContradiction
      intro hc
      have hs2 := hB s (by simp)
      have hgs := ((good_app P A (s :: B0) 0).1 h2).2
      have := hfr (max a s.1) (by omega) (by omega)
      rw [← h3, used_app, used_cons, inR_true (by omega) (by have := hgs.2.1; omega)] at this
      simp at this
    obtain ⟨gg, gu⟩ := glue_good (e := a + n) h2 hA hBs (by omega) han
    have hfin : ∀ w1, Turn (fun _ => False) w w1 → ∀ w', MPost w1 D P v (glue A B a (a + n)) w' → ∃ F', Grow w F w' F' ∧ MapU w' F' D P (fun p => U p || inR (a, a + n) p) := fun w1 T w' hm => by
      obtain ⟨F', g1, g2⟩ := mpost_u (h1.none T) h4 hm gg (fun p => (gu p).trans (by rw [h3]))
      exact ⟨F', (Grow.same T).trans g1, g2⟩
    have hbeh : ∀ w1, Turn (fun _ => False) w w1 → Calls Tryz.prog 74 #[.pointer (some ⟨D, 0, none⟩), .int .i64 (a : Int)] w1 (None w1 (.int .i64 (A.length : Int))) := fun w1 T => behind_any w1 D P v _ A B a (h1.none T) (by omega) rfl hA hB
    have hins : ∀ w1, Turn (fun _ => False) w w1 → Calls Tryz.prog 86 #[.pointer (some ⟨D, 0, none⟩), .int .i64 (A.length : Int), .agg #[.int .i64 (a : Int), .int .i64 ((a : Int) + (n : Int))]] w1 (fun en w' => en = .returned (.tuple #[]) ∧ MPost w1 D P v (glue A B a (a + n)) w') := fun w1 T => insert_any' w1 D P v A B a (a + n) (h1.none T) (by omega)
    have hcell : ∀ w1, Turn (fun _ => False) w w1 → ∃ av cap, w1.cell? ⟨D, 1, none⟩ = some (.slice av (A.length + B.length) cap) ∧ (∀ s B0, B = s :: B0 → ∃ g, av = some ⟨g, 0, none⟩ ∧ w1.cell? ⟨g, A.length * 2, none⟩ = some (.int .i64 (s.1 : Int))) := fun w1 T => by
      obtain ⟨av, cap, hv⟩ := own_shape h1.own
      have c1 := (h1.none T).cell1
      rw [hv, List.length_append] at c1
      refine ⟨av, cap, c1, fun s B0 hs => ?_⟩
      subst hs
      obtain ⟨g, cap', he, e1, e2⟩ := own_get (h1.none T).own (i := A.length) (by simp)
      rw [hv] at he
      cases he
      rw [get_mid] at e1
      exact ⟨g, rfl, e1⟩
    have HF := Lib.hid hfin
    have HB := Lib.hid hbeh
    have HI := Lib.hid hins
    have HC := Lib.hid hcell
    have HBS := Lib.hid hBs
    have hn0 : ((n : Int) == 0) = false := by rw [beq_eq_false_iff_ne]; omega
    rw [List.length_append] at hlen
    clear hfin hbeh hins hcell hBs h1 h2 h3 h4 hA hB gg gu hfr
    go_enter Tryz.func64, Tryz.ntmps64
    go_wp2_with fail
    refine hhas.mono ?_
    rintro e w1 ⟨rfl, T1⟩
    go_wp2_with fail
    refine (HB.out w1 T1).mono ?_
    rintro e w2 ⟨rfl, T2'⟩
    have T2 := T1.trans T2' (fun _ _ => id)
    obtain ⟨av, cap, c1, c2⟩ := HC.out w2 T2
    cases B with
    | nil =>
      have hlt : ¬ ((A.length : Int) < (A.length : Int)) := by omega
      simp only [List.length_nil, Nat.add_zero] at c1
      clear c2
      obtain ⟨m, hm⟩ : ∃ m, A.length = m := ⟨_, rfl⟩
      rw [hm] at c1 HI hlt ⊢
      clear hm
      go_wp2_with fail
      refine (HI.out w2 T2).mono ?_
      rintro e w3 ⟨rfl, m3⟩
      go_wp2_with fail
      go_ret
      exact ⟨rfl, HF.out w2 T2 _ m3⟩
    | cons s B0 =>
      obtain ⟨g, rfl, e1⟩ := c2 s B0 rfl
      have hsx := HBS.out s B0 rfl
      obtain ⟨x, hx⟩ : ∃ x, s.1 = x := ⟨_, rfl⟩
      rw [hx] at hsx e1
      obtain ⟨m, hm⟩ : ∃ m, A.length = m := ⟨_, rfl⟩
      obtain ⟨b, hb⟩ : ∃ b, (s :: B0).length = b + 1 := ⟨_, rfl⟩
      rw [hm] at c1 HI e1 hlen ⊢
      rw [hb] at c1 hlen
      clear hm hx hb c2
      have hlt : (m : Int) < ((m + (b + 1) : Nat) : Int) := by omega
      have hlt2 : (m : Int) < (m : Int) + ((b : Int) + 1) := by omega
      have hge : ¬ ((x : Int) < (a : Int) + (n : Int)) := by omega
      go_wp2_with fail
      refine (HI.out w2 T2).mono ?_
      rintro e w3 ⟨rfl, m3⟩
      go_wp2_with fail
      go_ret
      exact ⟨rfl, HF.out w2 T2 _ m3⟩
end Go.Proofs.YtboofamenpcnhaaGreatDoor
namespace Go.Proofs.YtboofamenpcnhaaGreatDoor
set_option maxRecDepth 100000
open Go.RowKit
set_option linter.unusedVariables false
set_option linter.unusedSimpArgs false
theorem BoxAt.none {w w' : World} {R x y : Nat} (h : BoxAt w R x y) (T : Turn (fun _ => False) w w') : BoxAt w' R x y := (T.block R h.lt id).trans h
end Go.Proofs.YtboofamenpcnhaaGreatDoor
namespace Go.Proofs.YtboofamenpcnhaaGreatDoor
set_option maxRecDepth 100000
open Go.RowKit
set_option linter.unusedVariables false
set_option linter.unusedSimpArgs false
theorem left_h (w : World) (F : Nat → Prop) (D P : Nat) (U : Nat → Bool) (h : MapU w F D P U) (hP : P ≤ 5000) : Calls Tryz.prog 38 #[.pointer (some ⟨D, 0, none⟩)] w (None w (.int .i64 ((cnt (fun p => !U p) P : Nat) : Int))) := by
  obtain ⟨v, L, h1, h2, h3, h4⟩ := h
  have := left_any w D P v L h1 h2 hP
  have e : P - sumR L = cnt (fun p => !U p) P := by
    have a := cnt_used h2
    have b := cnt_not U P
    have c : cnt (usedB L) P = cnt U P := cnt_congr (fun p _ => h3 p)
    omega
  rw [e] at this
  exact this
theorem find_h (w : World) (F : Nat → Prop) (D P : Nat) (U : Nat → Bool) (h : MapU w F D P U) (hP : P ≤ 5000) (N : Nat) (hN : 0 < N) (hN2 : N < 9223372036854775808) (o : Option Nat) (ho : Least U P N o) : Calls Tryz.prog 30 #[.pointer (some ⟨D, 0, none⟩), .int .i64 (N : Int)] w (None w (.int .i64 (optI o))) := by
  obtain ⟨v, L, h1, h2, h3, h4⟩ := h
  have := find_any w D P v L h1 h2 hP N hN hN2
  rw [least_one (least_eq h3 (fnd_least hN h2)) ho] at this
  exact this
theorem MapU.hi {w : World} {F : Nat → Prop} {D P : Nat} {U : Nat → Bool} (h : MapU w F D P U) {p : Nat} (hp : P ≤ p) : U p = false := by
  obtain ⟨v, L, h1, h2, h3, h4⟩ := h
  rw [← h3]; exact used_hi h2 hp
theorem MapU.congr {w : World} {F : Nat → Prop} {D P : Nat} {U V : Nat → Bool} (h : MapU w F D P U) (e : ∀ p, p < P → U p = V p) (hV : ∀ p, P ≤ p → V p = false) : MapU w F D P V := by
  have hh := h
  obtain ⟨v, L, h1, h2, h3, h4⟩ := h
  refine ⟨v, L, h1, h2, fun p => ?_, h4⟩
  by_cases hp : p < P
  · rw [h3, e p hp]
  · rw [hV p (by omega), h3]; exact hh.hi (by omega)
theorem new_hE (w : World) (n : Int) (hn : -9223372036854775808 ≤ n ∧ n < 9223372036854775808) :
    Calls Tryz.prog 49 #[.int .i64 n] w (fun e w' => ∃ D F, e = .returned (.pointer (some ⟨D, 0, none⟩)) ∧ MapU w' F D n.toNat (fun _ => false) ∧ (∀ k, F k → w.heap.size ≤ k) ∧ Turn (fun _ => False) w w') := by
  refine (new_anyE w n hn).mono ?_
  rintro e w' ⟨rfl, h1, h2⟩
  refine ⟨w.heap.size, fun k => k = w.heap.size ∨ (Value.slice none 0 0).ownBlock = some k, rfl, ⟨_, [], h1, trivial, fun _ => rfl, fun _ => Iff.rfl⟩, fun k hk => ?_, h2⟩
  rcases hk with rfl | hk
  · exact Nat.le_refl _
  · cases hk
end Go.Proofs.YtboofamenpcnhaaGreatDoor
