/- Own contracts: a map's small calls, the search. No statement is proved here. -/
import Derived.Test.YtmhdcpkncaghpaaRepd
import Derived.Shelf.Spec.SearchS
namespace Go.Proofs.Ytmhdcpkncaghpaa
open Go.RowKit
set_option linter.unusedVariables false
set_option linter.unusedSimpArgs false

/-- A map in memory: so many places, these runs. -/
structure MapIn (w : World) (D P : Nat) (v : Value) (L : List (Nat × Nat)) : Prop where
  head : w.heap[D]? = some (.cells #[.int .i64 (P : Int), v] 41 (0, 0))
  own : w.ownsRow 0 43 2 v L.length (flat L)
  apart : v.ownBlock ≠ some D
theorem MapIn.lt {w : World} {D P : Nat} {v : Value} {L : List (Nat × Nat)} (h : MapIn w D P v L) : D < w.heap.size := (Array.getElem?_eq_some_iff.1 h.head).1
theorem MapIn.cell0 {w : World} {D P : Nat} {v : Value} {L : List (Nat × Nat)} (h : MapIn w D P v L) : w.cell? ⟨D, 0, none⟩ = some (.int .i64 (P : Int)) := cell_of_row w D 0 _ 41 (0, 0) h.head
theorem MapIn.cell1 {w : World} {D P : Nat} {v : Value} {L : List (Nat × Nat)} (h : MapIn w D P v L) : w.cell? ⟨D, 1, none⟩ = some v := cell_of_row w D 1 _ 41 (0, 0) h.head
theorem MapIn.free {w : World} {D P : Nat} {v : Value} {L : List (Nat × Nat)} (h : MapIn w D P v L) (i : Nat) : w.frozen? ⟨D, i, none⟩ = false := frozen_of_row w D i _ 41 h.head
theorem MapIn.turn {S : Nat → Prop} {w w' : World} {D P : Nat} {v : Value} {L : List (Nat × Nat)} (h : MapIn w D P v L) (t : Turn S w w') (hD : ¬ S D) (hv : ∀ k, v.ownBlock = some k → ¬ S k) : MapIn w' D P v L :=
  ⟨(t.block D h.lt hD).trans h.head, t.owns h.own hv, h.apart⟩
theorem MapIn.none {w w' : World} {D P : Nat} {v : Value} {L : List (Nat × Nat)} (h : MapIn w D P v L) (t : Turn (fun _ => False) w w') : MapIn w' D P v L := h.turn t id (fun _ _ => id)
/-- What lies in the runs' row. -/
theorem own_get {w : World} {v : Value} {L : List (Nat × Nat)} (h : w.ownsRow 0 43 2 v L.length (flat L)) {i : Nat} (hi : i < L.length) :
    ∃ g cap, v = .slice (some ⟨g, 0, none⟩) L.length cap ∧ w.cell? ⟨g, i * 2, none⟩ = some (.int .i64 ((L[i]).1 : Int)) ∧ w.cell? ⟨g, i * 2 + 1, none⟩ = some (.int .i64 ((L[i]).2 : Int)) := by
  rcases h.2 with ⟨rfl, h0⟩ | ⟨g, cap, cur, rfl, _, hg, hnc, hcm, hcs, ht⟩
  · omega
  · have hc := h.cells (g := g) rfl
    have := flat_get L i L[i] (List.getElem?_eq_getElem hi)
    refine ⟨g, cap, rfl, ?_, ?_⟩
    · have := hc _ _ this.1
      rwa [Addr.add_lit, Nat.zero_add] at this
    · have := hc _ _ this.2
      rwa [Addr.add_lit, Nat.zero_add] at this
theorem own_shape {w : World} {v : Value} {L : List (Nat × Nat)} (h : w.ownsRow 0 43 2 v L.length (flat L)) : ∃ a cap, v = .slice a L.length cap := by
  rcases h.2 with ⟨rfl, h0⟩ | ⟨g, cap, cur, rfl, _, hg, hnc, hcm, hcs, ht⟩
  · exact ⟨none, 0, by rw [h0]⟩
  · exact ⟨_, _, rfl⟩

def None (w : World) (v : Value) (e : Ending) (w' : World) : Prop := e = .returned v ∧ Turn (fun _ => False) w w'

set_option maxHeartbeats 800000 in
set_option maxRecDepth 100000 in
theorem len_any (w : World) (D P : Nat) (v : Value) (L : List (Nat × Nat)) (h : MapIn w D P v L) : Calls Try.prog 15 #[.pointer (some ⟨D, 0, none⟩)] w (None w (.int .i64 (P : Int))) := by
  have c0 := h.cell0
  go_enter Try.func15, Try.ntmps15
  go_wp2
  go_ret
  exact ⟨rfl, Turn.refl _ _⟩
set_option maxHeartbeats 800000 in
set_option maxRecDepth 100000 in
theorem has_any (w : World) (D P : Nat) (v : Value) (L : List (Nat × Nat)) (h : MapIn w D P v L) (at' n : Int) (hP : P < 4611686018427387904) (ha : -9223372036854775808 ≤ at' ∧ at' < 9223372036854775808) (hn : -9223372036854775808 ≤ n ∧ n < 9223372036854775808) :
    Calls Try.prog 16 #[.pointer (some ⟨D, 0, none⟩), .int .i64 at', .int .i64 n] w (None w (.bool (decide (0 ≤ n ∧ 0 ≤ at' ∧ at' ≤ P ∧ n ≤ P - at')))) := by
  have c0 := h.cell0
  have HH := Lib.hid h
  clear h
  obtain ⟨b, hb⟩ : ∃ b, b = decide (0 ≤ n ∧ 0 ≤ at' ∧ at' ≤ P ∧ n ≤ P - at') := ⟨_, rfl⟩
  rw [← hb]
  have HB := Lib.hid hb
  clear hb
  go_enter Try.func16, Try.ntmps16
  by_cases h1 : 0 ≤ n
  · by_cases h2 : 0 ≤ at'
    · by_cases h3 : at' ≤ P
      · by_cases h4 : n ≤ P - at'
        · go_wp2
          go_ret
          exact ⟨by rw [show b = true from HB.out.trans (decide_eq_true ⟨h1, h2, h3, h4⟩)]; rfl, Turn.refl _ _⟩
        · go_wp2
          go_ret
          exact ⟨by rw [show b = false from HB.out.trans (decide_eq_false (by omega))]; rfl, Turn.refl _ _⟩
      · go_wp2
        go_ret
        exact ⟨by rw [show b = false from HB.out.trans (decide_eq_false (by omega))]; rfl, Turn.refl _ _⟩
    · go_wp2
      go_ret
      exact ⟨by rw [show b = false from HB.out.trans (decide_eq_false (by omega))]; rfl, Turn.refl _ _⟩
  · go_wp2
    go_ret
    exact ⟨by rw [show b = false from HB.out.trans (decide_eq_false (by omega))]; rfl, Turn.refl _ _⟩

set_option maxHeartbeats 800000 in
set_option maxRecDepth 100000 in
/-- The closure. -/
theorem clos_any (w : World) (D P B1 B2 i : Nat) (v : Value) (L : List (Nat × Nat)) (at' : Int) (h : MapIn w D P v L) (c1 : w.cell? ⟨B1, 0, none⟩ = some (.pointer (some ⟨D, 0, none⟩))) (c2 : w.cell? ⟨B2, 0, none⟩ = some (.int .i64 at')) (hi : i < L.length) (hb : L.length < 100000) :
    Calls Try.prog 21 #[.int .i64 (i : Int), .pointer (some ⟨B1, 0, none⟩), .pointer (some ⟨B2, 0, none⟩)] w (fun e w' => e = .returned (.bool (decide (at' < (L[i].2 : Int)))) ∧ w' = w.drew) := by
  have d1 := h.cell1
  obtain ⟨g, cap, rfl, e1, e2⟩ := own_get h.own hi
  have HH := Lib.hid h
  clear h
  obtain ⟨r, hr⟩ : ∃ r, L[i].2 = r := ⟨_, rfl⟩
  rw [hr] at e2 ⊢
  clear hr e1
  obtain ⟨n, hl⟩ : ∃ n, L.length = n := ⟨_, rfl⟩
  rw [hl] at d1 hi hb
  have HL := Lib.hid hl
  clear hl
  obtain ⟨b, hb'⟩ : ∃ b, b = decide (at' < (r : Int)) := ⟨_, rfl⟩
  rw [← hb']
  have mixed : Try.prog.follows Departure.mixedOrders = true := by kernel_rfl
  go_enter Try.func21, Try.ntmps21
  go_wp2
  go_region
  go_wp2
  go_ret
  exact ⟨by rw [hb']; rfl, rfl⟩

set_option maxHeartbeats 1600000 in
set_option maxRecDepth 100000 in
/-- sort.Search with that closure. -/
theorem search_any (w : World) (D P B1 B2 : Nat) (v : Value) (L A B : List (Nat × Nat)) (at' : Int) (h : MapIn w D P v L) (c1 : w.cell? ⟨B1, 0, none⟩ = some (.pointer (some ⟨D, 0, none⟩))) (c2 : w.cell? ⟨B2, 0, none⟩ = some (.int .i64 at'))
    (hb : L.length < 100000) (hL : L = A ++ B) (hA : ∀ r ∈ A, (r.2 : Int) ≤ at') (hB : ∀ r ∈ B, at' < (r.2 : Int)) :
    Calls Try.prog 20 #[.int .i64 (L.length : Int), .func (.func 21) #[] #[.pointer (some ⟨B1, 0, none⟩), .pointer (some ⟨B2, 0, none⟩)]] w (None w (.int .i64 (A.length : Int))) := by
  have hAL : A.length ≤ L.length := by rw [hL, List.length_append]; omega
  have hlo : ∀ t (ht : t < L.length), t < A.length → (L[t].2 : Int) ≤ at' := fun t ht h1 => by
    subst hL
    rw [List.getElem_append_left h1]
    exact hA _ (List.getElem_mem _)
  have hhi : ∀ t (ht : t < L.length), A.length ≤ t → at' < (L[t].2 : Int) := fun t ht h1 => by
    subst hL
    rw [List.getElem_append_right h1]
    exact hB _ (List.getElem_mem _)
  have hclos : ∀ wr (t : Nat), Turn (fun _ => False) w wr → ∀ ht : t < L.length, Calls Try.prog 21 #[.int .i64 (t : Int), .pointer (some ⟨B1, 0, none⟩), .pointer (some ⟨B2, 0, none⟩)] wr (fun e w' => e = .returned (.bool (decide (A.length ≤ t))) ∧ w' = wr.drew) := fun wr t T ht => by
    have b1 : B1 < w.heap.size := block_lt_of_cell c1
    have b2 : B2 < w.heap.size := block_lt_of_cell c2
    refine (clos_any wr D P B1 B2 t v L at' (h.none T) ((T.cell (p := ⟨B1, 0, none⟩) b1 id).trans c1) ((T.cell (p := ⟨B2, 0, none⟩) b2 id).trans c2) ht hb).mono ?_
    rintro e w' ⟨rfl, rfl⟩
    refine ⟨?_, rfl⟩
    by_cases hq : A.length ≤ t
    · rw [decide_eq_true (hhi t ht hq), decide_eq_true hq]
    · rw [decide_eq_false (by have := hlo t ht (by omega); omega), decide_eq_false hq]
  obtain ⟨k, hk⟩ : ∃ k, A.length = k := ⟨_, rfl⟩
  obtain ⟨n, hn⟩ : ∃ n, L.length = n := ⟨_, rfl⟩
  rw [hk] at hAL hclos ⊢
  rw [hn] at hAL hclos hb ⊢
  have HC := Lib.hid hclos
  clear hclos hlo hhi hA hB hL h hk hn c1 c2
  go_enter Try.func20, Try.ntmps20
  go_wp2
  go_loopg [5, 6] n (fun g s5 s6 wr => ∃ lo hi : Nat, s5 = .int .i64 lo ∧ s6 = .int .i64 hi ∧ lo ≤ k ∧ k ≤ hi ∧ hi ≤ n ∧ hi - lo ≤ g ∧ Turn (fun _ => False) w wr)
  case atStart => exact ⟨0, n, rfl, rfl, Nat.zero_le _, hAL, Nat.le_refl _, by omega, Turn.refl _ _⟩
  case round =>
    obtain ⟨lo, hi, rfl, rfl, h1, h2, h3, hg, T⟩ := hrel
    have HT := Lib.hid T
    clear T
    by_cases hlt : lo < hi
    · have hcall := HC _ ((lo + hi) / 2) HT.out (by omega)
      rw [show (((lo + hi) / 2 : Nat) : Int) = ((lo : Int) + (hi : Int)) / 2 by omega] at hcall
      have HK := Lib.hid hcall
      clear hcall
      by_cases hq : k ≤ (lo + hi) / 2
      · go_wp2_with fail
        refine (HK.out).mono ?_
        rintro e w' ⟨rfl, rfl⟩
        rw [decide_eq_true hq]
        go_wp2
        go_roundg ((lo + hi) / 2 - lo)
        case measure => omega
        case rel => exact ⟨lo, (lo + hi) / 2, rfl, by rw [show ((lo : Int) + (hi : Int)) / 2 = (((lo + hi) / 2 : Nat) : Int) by omega], h1, hq, by omega, Nat.le_refl _, HT.out.drew⟩
      · go_wp2_with fail
        refine (HK.out).mono ?_
        rintro e w' ⟨rfl, rfl⟩
        rw [decide_eq_false hq]
        go_wp2
        go_roundg (hi - ((lo + hi) / 2 + 1))
        case measure => omega
        case rel => exact ⟨(lo + hi) / 2 + 1, hi, by rw [show ((lo : Int) + (hi : Int)) / 2 + 1 = (((lo + hi) / 2 + 1 : Nat) : Int) by omega], rfl, by omega, h2, h3, Nat.le_refl _, HT.out.drew⟩
    · have : hi = k := by omega
      have : lo = k := by omega
      subst hi lo
      go_wp2
      go_ret
      exact ⟨rfl, HT.out⟩

set_option maxHeartbeats 800000 in
set_option maxRecDepth 100000 in
theorem behind_any (w : World) (D P : Nat) (v : Value) (L A B : List (Nat × Nat)) (at' : Int) (h : MapIn w D P v L) (hb : L.length < 100000) (hL : L = A ++ B) (hA : ∀ r ∈ A, (r.2 : Int) ≤ at') (hB : ∀ r ∈ B, at' < (r.2 : Int)) :
    Calls Try.prog 17 #[.pointer (some ⟨D, 0, none⟩), .int .i64 at'] w (None w (.int .i64 (A.length : Int))) := by
  have d1 := h.cell1
  obtain ⟨a, cap, rfl⟩ := own_shape h.own
  have T1 := ((Turn.refl (fun _ => False) w).alloc (.cells #[.pointer (some ⟨D, 0, none⟩)] 24)).alloc (.cells #[.int .i64 at'] 3)
  have h1 := h.none T1
  have dd1 := h1.cell1
  have k2 : ((w.alloc (.cells #[.pointer (some ⟨D, 0, none⟩)] 24)).alloc (.cells #[.int .i64 at'] 3)).cell? ⟨w.heap.size + 1, 0, none⟩ = some (.int .i64 at') := by
    rw [World.cell?_alloc_at (w := w.alloc _) _ _ (w.heap.size + 1) 0 (by simp)]; rfl
  have k1 : ((w.alloc (.cells #[.pointer (some ⟨D, 0, none⟩)] 24)).alloc (.cells #[.int .i64 at'] 3)).cell? ⟨w.heap.size, 0, none⟩ = some (.pointer (some ⟨D, 0, none⟩)) := by
    rw [World.cell?_alloc_past (w := w.alloc _) _ w.heap.size 0 (by simp), World.cell?_alloc_at (w := w) _ _ w.heap.size 0 rfl]; rfl
  have hS := search_any _ D P w.heap.size (w.heap.size + 1) _ L A B at' h1 k1 k2 hb hL hA hB
  have HS := Lib.hid hS
  have HL := Lib.hid hL
  have HT := Lib.hid T1
  clear hS hL h1 hA hB h T1
  go_enter Try.func17, Try.ntmps17
  go_wp2_with fail
  refine (HS.out).mono ?_
  rintro e w' ⟨rfl, T2⟩
  go_wp2
  go_ret
  exact ⟨rfl, HT.out.trans T2 (fun _ _ => id)⟩
end Go.Proofs.Ytmhdcpkncaghpaa
