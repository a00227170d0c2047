/- Own texts, packed: Q07. -/
import Derived.Test.YtboofamenpcnhaaGreatDoorV31
import Derived.Shelf.Spec.SearchS
namespace Go.Proofs.YtboofamenpcnhaaGreatDoor
set_option maxRecDepth 100000
open Go.RowKit
set_option linter.unusedVariables false
set_option linter.unusedSimpArgs false
/-- A map in memory: so many places, these runs. -/
structure MapIn (w : World) (D P : Nat) (v : Value) (L : List (Nat × Nat)) : Prop where
  head : w.heap[D]? = some (.cells #[.int .i64 (P : Int), v] 120 (0, 0))
  own : w.ownsRow 0 122 2 v L.length (flat L)
  apart : v.ownBlock ≠ some D
theorem MapIn.lt {w : World} {D P : Nat} {v : Value} {L : List (Nat × Nat)} (h : MapIn w D P v L) : D < w.heap.size := (Array.getElem?_eq_some_iff.1 h.head).1
theorem MapIn.cell0 {w : World} {D P : Nat} {v : Value} {L : List (Nat × Nat)} (h : MapIn w D P v L) : w.cell? ⟨D, 0, none⟩ = some (.int .i64 (P : Int)) := cell_of_row w D 0 _ 120 (0, 0) h.head
theorem MapIn.cell1 {w : World} {D P : Nat} {v : Value} {L : List (Nat × Nat)} (h : MapIn w D P v L) : w.cell? ⟨D, 1, none⟩ = some v := cell_of_row w D 1 _ 120 (0, 0) h.head
theorem MapIn.free {w : World} {D P : Nat} {v : Value} {L : List (Nat × Nat)} (h : MapIn w D P v L) (i : Nat) : w.frozen? ⟨D, i, none⟩ = false := frozen_of_row w D i _ 120 h.head
theorem MapIn.turn {S : Nat → Prop} {w w' : World} {D P : Nat} {v : Value} {L : List (Nat × Nat)} (h : MapIn w D P v L) (t : Turn S w w') (hD : ¬ S D) (hv : ∀ k, v.ownBlock = some k → ¬ S k) : MapIn w' D P v L :=
  ⟨(t.block D h.lt hD).trans h.head, t.owns h.own hv, h.apart⟩
theorem MapIn.none {w w' : World} {D P : Nat} {v : Value} {L : List (Nat × Nat)} (h : MapIn w D P v L) (t : Turn (fun _ => False) w w') : MapIn w' D P v L := h.turn t id (fun _ _ => id)
/-- What lies in the runs' row. -/
theorem own_get {w : World} {v : Value} {L : List (Nat × Nat)} (h : w.ownsRow 0 122 2 v L.length (flat L)) {i : Nat} (hi : i < L.length) :
    ∃ g cap, v = .slice (some ⟨g, 0, none⟩) L.length cap ∧ w.cell? ⟨g, i * 2, none⟩ = some (.int .i64 ((L[i]).1 : Int)) ∧ w.cell? ⟨g, i * 2 + 1, none⟩ = some (.int .i64 ((L[i]).2 : Int)) := by
  rcases h.2 with ⟨rfl, h0⟩ | ⟨g, cap, cur, rfl, _, hg, hnc, hcm, hcs, ht⟩
  · omega
  · have hc := h.cells (g := g) rfl
    have := flat_get L i L[i] (List.getElem?_eq_getElem hi)
    refine ⟨g, cap, rfl, ?_, ?_⟩
    · have := hc _ _ this.1
      rwa [Addr.add_lit, Nat.zero_add] at this
    · have := hc _ _ this.2
      rwa [Addr.add_lit, Nat.zero_add] at this
theorem own_shape {w : World} {v : Value} {L : List (Nat × Nat)} (h : w.ownsRow 0 122 2 v L.length (flat L)) : ∃ a cap, v = .slice a L.length cap := by
  rcases h.2 with ⟨rfl, h0⟩ | ⟨g, cap, cur, rfl, _, hg, hnc, hcm, hcs, ht⟩
  · exact ⟨none, 0, by rw [h0]⟩
  · exact ⟨_, _, rfl⟩
def None (w : World) (v : Value) (e : Ending) (w' : World) : Prop := e = .returned v ∧ Turn (fun _ => False) w w'
set_option maxHeartbeats 800000 in
set_option maxRecDepth 100000 in
theorem has_anyE (w : World) (D P : Nat) (v : Value) (L : List (Nat × Nat)) (h : MapIn w D P v L) (at' n : Int) (hP : P < 4611686018427387904) (ha : -9223372036854775808 ≤ at' ∧ at' < 9223372036854775808) (hn : -9223372036854775808 ≤ n ∧ n < 9223372036854775808) :
    Calls Tryz.prog 73 #[.pointer (some ⟨D, 0, none⟩), .int .i64 at', .int .i64 n] w (None w (.bool (decide (0 ≤ n ∧ 0 ≤ at' ∧ at' ≤ P ∧ n ≤ P - at')))) := by
  have c0 := h.cell0
  have HH := Lib.hid h
  clear h
  obtain ⟨b, hb⟩ : ∃ b, b = decide (0 ≤ n ∧ 0 ≤ at' ∧ at' ≤ P ∧ n ≤ P - at') := ⟨_, rfl⟩
  rw [← hb]
  have HB := Lib.hid hb
  clear hb
  go_enter Tryz.func73, Tryz.ntmps73
  by_cases h1 : 0 ≤ n
  · by_cases h2 : 0 ≤ at'
    · by_cases h3 : at' ≤ P
      · by_cases h4 : n ≤ P - at'
        · go_wp2
          go_ret
          exact ⟨by rw [show b = true from HB.out.trans (decide_eq_true ⟨h1, h2, h3, h4⟩)]; rfl, Turn.refl _ _⟩
        · go_wp2
          go_ret
          exact ⟨by rw [show b = false from HB.out.trans (decide_eq_false (by omega))]; rfl, Turn.refl _ _⟩
      · go_wp2
        go_ret
        exact ⟨by rw [show b = false from HB.out.trans (decide_eq_false (by omega))]; rfl, Turn.refl _ _⟩
    · go_wp2
      go_ret
      exact ⟨by rw [show b = false from HB.out.trans (decide_eq_false (by omega))]; rfl, Turn.refl _ _⟩
  · go_wp2
    go_ret
    exact ⟨by rw [show b = false from HB.out.trans (decide_eq_false (by omega))]; rfl, Turn.refl _ _⟩
set_option maxHeartbeats 800000 in
set_option maxRecDepth 100000 in
/-- The closure. -/
theorem clos_any (w : World) (D P B1 B2 i : Nat) (v : Value) (L : List (Nat × Nat)) (at' : Int) (h : MapIn w D P v L) (c1 : w.cell? ⟨B1, 0, none⟩ = some (.pointer (some ⟨D, 0, none⟩))) (c2 : w.cell? ⟨B2, 0, none⟩ = some (.int .i64 at')) (hi : i < L.length) (hb : L.length < 100000) :
    Calls Tryz.prog 100 #[.int .i64 (i : Int), .pointer (some ⟨B1, 0, none⟩), .pointer (some ⟨B2, 0, none⟩)] w (fun e w' => e = .returned (.bool (decide (at' < (L[i].2 : Int)))) ∧ w' = w.drew) := by
  have d1 := h.cell1
  obtain ⟨g, cap, rfl, e1, e2⟩ := own_get h.own hi
  have HH := Lib.hid h
  clear h
  obtain ⟨r, hr⟩ : ∃ r, L[i].2 = r := ⟨_, rfl⟩
  rw [hr] at e2 ⊢
  clear hr e1
  obtain ⟨n, hl⟩ : ∃ n, L.length = n := ⟨_, rfl⟩
  rw [hl] at d1 hi hb
  have HL := Lib.hid hl
  clear hl
  obtain ⟨b, hb'⟩ : ∃ b, b = decide (at' < (r : Int)) := ⟨_, rfl⟩
  rw [← hb']
  have mixed : Tryz.prog.follows Departure.mixedOrders = true := by kernel_rfl
  go_enter Tryz.func100, Tryz.ntmps100
  go_wp2
  go_region
  go_wp2
  go_ret
  exact ⟨by rw [hb']; rfl, rfl⟩
set_option maxHeartbeats 1600000 in
set_option maxRecDepth 100000 in
/-- sort.Search with that closure. -/
theorem search_any (w : World) (D P B1 B2 : Nat) (v : Value) (L A B : List (Nat × Nat)) (at' : Int) (h : MapIn w D P v L) (c1 : w.cell? ⟨B1, 0, none⟩ = some (.pointer (some ⟨D, 0, none⟩))) (c2 : w.cell? ⟨B2, 0, none⟩ = some (.int .i64 at'))
    (hb : L.length < 100000) (hL : L = A ++ B) (hA : ∀ r ∈ A, (r.2 : Int) ≤ at') (hB : ∀ r ∈ B, at' < (r.2 : Int)) :
    Calls Tryz.prog 99 #[.int .i64 (L.length : Int), .func (.func 100) #[] #[.pointer (some ⟨B1, 0, none⟩), .pointer (some ⟨B2, 0, none⟩)]] w (None w (.int .i64 (A.length : Int))) := by
  have hAL : A.length ≤ L.length := by rw [hL, List.length_append]; omega
  have hlo : ∀ t (ht : t < L.length), t < A.length → (L[t].2 : Int) ≤ at' := fun t ht h1 => by
    subst hL
    rw [List.getElem_append_left h1]
    exact hA _ (List.getElem_mem _)
  have hhi : ∀ t (ht : t < L.length), A.length ≤ t → at' < (L[t].2 : Int) := fun t ht h1 => by
    subst hL
    rw [List.getElem_append_right h1]
    exact hB _ (List.getElem_mem _)
  have hclos : ∀ wr (t : Nat), Turn (fun _ => False) w wr → ∀ ht : t < L.length, Calls Tryz.prog 100 #[.int .i64 (t : Int), .pointer (some ⟨B1, 0, none⟩), .pointer (some ⟨B2, 0, none⟩)] wr (fun e w' => e = .returned (.bool (decide (A.length ≤ t))) ∧ w' = wr.drew) := fun wr t T ht => by
    have b1 : B1 < w.heap.size := block_lt_of_cell c1
    have b2 : B2 < w.heap.size := block_lt_of_cell c2
    refine (clos_any wr D P B1 B2 t v L at' (h.none T) ((T.cell (p := ⟨B1, 0, none⟩) b1 id).trans c1) ((T.cell (p := ⟨B2, 0, none⟩) b2 id).trans c2) ht hb).mono ?_
    rintro e w' ⟨rfl, rfl⟩
    refine ⟨?_, rfl⟩
    by_cases hq : A.length ≤ t
    · rw [decide_eq_true (hhi t ht hq), decide_eq_true hq]
    · rw [decide_eq_false (by have := hlo t ht (by omega); omega), decide_eq_false hq]
  obtain ⟨k, hk⟩ : ∃ k, A.length = k := ⟨_, rfl⟩
  obtain ⟨n, hn⟩ : ∃ n, L.length = n := ⟨_, rfl⟩
  rw [hk] at hAL hclos ⊢
  rw [hn] at hAL hclos hb ⊢
  have HC := Lib.hid hclos
  clear hclos hlo hhi hA hB hL h hk hn c1 c2
  go_enter Tryz.func99, Tryz.ntmps99
  go_wp2
  go_loopg [5, 6] n (fun g s5 s6 wr => ∃ lo hi : Nat, s5 = .int .i64 lo ∧ s6 = .int .i64 hi ∧ lo ≤ k ∧ k ≤ hi ∧ hi ≤ n ∧ hi - lo ≤ g ∧ Turn (fun _ => False) w wr)
  case atStart => exact ⟨0, n, rfl, rfl, Nat.zero_le _, hAL, Nat.le_refl _, by omega, Turn.refl _ _⟩
  case round =>
    obtain ⟨lo, hi, rfl, rfl, h1, h2, h3, hg, T⟩ := hrel
    have HT := Lib.hid T
    clear T
    by_cases hlt : lo < hi
    · have hcall := HC _ ((lo + hi) / 2) HT.out (by omega)
      rw [show (((lo + hi) / 2 : Nat) : Int) = ((lo : Int) + (hi : Int)) / 2 by omega] at hcall
      have HK := Lib.hid hcall
      clear hcall
      by_cases hq : k ≤ (lo + hi) / 2
      · go_wp2_with fail
        refine (HK.out).mono ?_
        rintro e w' ⟨rfl, rfl⟩
        rw [decide_eq_true hq]
        go_wp2
        go_roundg ((lo + hi) / 2 - lo)
        case measure => omega
        case rel => exact ⟨lo, (lo + hi) / 2, rfl, by rw [show ((lo : Int) + (hi : Int)) / 2 = (((lo + hi) / 2 : Nat) : Int) by omega], h1, hq, by omega, Nat.le_refl _, HT.out.drew⟩
      · go_wp2_with fail
        refine (HK.out).mono ?_
        rintro e w' ⟨rfl, rfl⟩
        rw [decide_eq_false hq]
        go_wp2
        go_roundg (hi - ((lo + hi) / 2 + 1))
        case measure => omega
        case rel => exact ⟨(lo + hi) / 2 + 1, hi, by rw [show ((lo : Int) + (hi : Int)) / 2 + 1 = (((lo + hi) / 2 + 1 : Nat) : Int) by omega], rfl, by omega, h2, h3, Nat.le_refl _, HT.out.drew⟩
    · have : hi = k := by omega
      have : lo = k := by omega
      subst hi lo
      go_wp2
      go_ret
      exact ⟨rfl, HT.out⟩
set_option maxHeartbeats 800000 in
set_option maxRecDepth 100000 in
theorem behind_any (w : World) (D P : Nat) (v : Value) (L A B : List (Nat × Nat)) (at' : Int) (h : MapIn w D P v L) (hb : L.length < 100000) (hL : L = A ++ B) (hA : ∀ r ∈ A, (r.2 : Int) ≤ at') (hB : ∀ r ∈ B, at' < (r.2 : Int)) :
    Calls Tryz.prog 74 #[.pointer (some ⟨D, 0, none⟩), .int .i64 at'] w (None w (.int .i64 (A.length : Int))) := by
  have d1 := h.cell1
  obtain ⟨a, cap, rfl⟩ := own_shape h.own
  have T1 := ((Turn.refl (fun _ => False) w).alloc (.cells #[.pointer (some ⟨D, 0, none⟩)] 74)).alloc (.cells #[.int .i64 at'] 3)
  have h1 := h.none T1
  have dd1 := h1.cell1
  have k2 : ((w.alloc (.cells #[.pointer (some ⟨D, 0, none⟩)] 74)).alloc (.cells #[.int .i64 at'] 3)).cell? ⟨w.heap.size + 1, 0, none⟩ = some (.int .i64 at') := by
    rw [World.cell?_alloc_at (w := w.alloc _) _ _ (w.heap.size + 1) 0 (by simp)]; rfl
  have k1 : ((w.alloc (.cells #[.pointer (some ⟨D, 0, none⟩)] 74)).alloc (.cells #[.int .i64 at'] 3)).cell? ⟨w.heap.size, 0, none⟩ = some (.pointer (some ⟨D, 0, none⟩)) := by
    rw [World.cell?_alloc_past (w := w.alloc _) _ w.heap.size 0 (by simp), World.cell?_alloc_at (w := w) _ _ w.heap.size 0 rfl]; rfl
  have hS := search_any _ D P w.heap.size (w.heap.size + 1) _ L A B at' h1 k1 k2 hb hL hA hB
  have HS := Lib.hid hS
  have HL := Lib.hid hL
  have HT := Lib.hid T1
  clear hS hL h1 hA hB h T1
  go_enter Tryz.func74, Tryz.ntmps74
  go_wp2_with fail
  refine (HS.out).mono ?_
  rintro e w' ⟨rfl, T2⟩
  go_wp2
  go_ret
  exact ⟨rfl, HT.out.trans T2 (fun _ _ => id)⟩
end Go.Proofs.YtboofamenpcnhaaGreatDoor
namespace Go.Proofs.YtboofamenpcnhaaGreatDoor
set_option maxRecDepth 100000
open Go.RowKit
set_option linter.unusedVariables false
set_option linter.unusedSimpArgs false
/-- Rising, none empty, a free place between any two, from one place on. -/
def Good (P : Nat) : Nat → List (Nat × Nat) → Prop
  | _, [] => True
  | lo, r :: L => lo ≤ r.1 ∧ r.1 < r.2 ∧ r.2 ≤ P ∧ Good P (r.2 + 1) L
def inR (r : Nat × Nat) (p : Nat) : Bool := decide (r.1 ≤ p ∧ p < r.2)
def usedB (L : List (Nat × Nat)) (p : Nat) : Bool := L.any (inR · p)
def nxt : Nat → List (Nat × Nat) → Nat
  | lo, [] => lo
  | _, r :: L => nxt (r.2 + 1) L
theorem inR_true {r : Nat × Nat} {p : Nat} (h : r.1 ≤ p) (h2 : p < r.2) : inR r p = true := decide_eq_true ⟨h, h2⟩
theorem inR_false {r : Nat × Nat} {p : Nat} (h : p < r.1 ∨ r.2 ≤ p) : inR r p = false := decide_eq_false (by omega)
theorem used_nil (p : Nat) : usedB [] p = false := rfl
theorem used_cons (r : Nat × Nat) (L : List (Nat × Nat)) (p : Nat) : usedB (r :: L) p = (inR r p || usedB L p) := rfl
theorem used_app (A B : List (Nat × Nat)) (p : Nat) : usedB (A ++ B) p = (usedB A p || usedB B p) := by simp [usedB]
theorem good_app (P : Nat) (A B : List (Nat × Nat)) : ∀ lo, Good P lo (A ++ B) ↔ Good P lo A ∧ Good P (nxt lo A) B := by
  induction A with
  | nil => intro lo; simp [Good, nxt]
  | cons r A ih => intro lo; simp only [List.cons_append, Good, nxt, ih]; constructor <;> intro h <;> simp_all
theorem nxt_app (lo : Nat) (A B : List (Nat × Nat)) : nxt lo (A ++ B) = nxt (nxt lo A) B := by
  induction A generalizing lo with
  | nil => rfl
  | cons r A ih => simp only [List.cons_append, nxt, ih]
theorem nxt_last (lo : Nat) (A : List (Nat × Nat)) (q : Nat × Nat) : nxt lo (A ++ [q]) = q.2 + 1 := by rw [nxt_app]; rfl
theorem good_mem {P lo : Nat} {L : List (Nat × Nat)} (h : Good P lo L) : ∀ r ∈ L, lo ≤ r.1 ∧ r.1 < r.2 ∧ r.2 ≤ P := by
  induction L generalizing lo with
  | nil => intro r hr; cases hr
  | cons q L ih =>
    obtain ⟨h1, h2, h3, h4⟩ := h
    intro r hr
    rcases List.mem_cons.1 hr with rfl | hr
    · exact ⟨h1, h2, h3⟩
    · have := ih h4 r hr; omega
/-- What is ahead of a place, and what isn't. -/
theorem good_split {P : Nat} (at' : Int) : ∀ {L : List (Nat × Nat)} {lo : Nat}, Good P lo L → ∃ A B, L = A ++ B ∧ (∀ r ∈ A, (r.2 : Int) ≤ at') ∧ (∀ r ∈ B, at' < (r.2 : Int))
  | [], _, _ => ⟨[], [], rfl, by simp, by simp⟩
  | r :: L, lo, h => by
    by_cases hr : (r.2 : Int) ≤ at'
    · obtain ⟨A, B, e, h1, h2⟩ := good_split at' h.2.2.2
      refine ⟨r :: A, B, by rw [e]; rfl, ?_, h2⟩
      intro q hq
      rcases List.mem_cons.1 hq with rfl | hq
      · exact hr
      · exact h1 q hq
    · refine ⟨[], r :: L, rfl, by simp, ?_⟩
      intro q hq
      rcases List.mem_cons.1 hq with rfl | hq
      · omega
      · have := good_mem h.2.2.2 q hq; omega
theorem good_len {P lo : Nat} {L : List (Nat × Nat)} (h : Good P lo L) : L.length + lo ≤ P + 1 ∨ L = [] := by
  induction L generalizing lo with
  | nil => exact .inr rfl
  | cons q L ih =>
    obtain ⟨h1, h2, h3, h4⟩ := h
    left
    rcases ih h4 with h | rfl
    · simp; omega
    · simp; omega
theorem good_len0 {P : Nat} {L : List (Nat × Nat)} (h : Good P 0 L) : L.length ≤ P + 1 := by
  rcases good_len h with h | rfl
  · omega
  · simp
theorem used_lo {P lo : Nat} {L : List (Nat × Nat)} (h : Good P lo L) {p : Nat} (hp : p < lo) : usedB L p = false := by
  rw [usedB, List.any_eq_false]
  intro r hr
  have := good_mem h r hr
  rw [inR_false (by omega)]; simp
theorem used_hi {P lo : Nat} {L : List (Nat × Nat)} (h : Good P lo L) {p : Nat} (hp : P ≤ p) : usedB L p = false := by
  rw [usedB, List.any_eq_false]
  intro r hr
  have := good_mem h r hr
  rw [inR_false (by omega)]; simp
/-- What is left where it touches, and how far it goes. -/
def lftN (A : List (Nat × Nat)) (a : Nat) : Nat := match A.getLast? with | some q => if q.2 = a then A.length - 1 else A.length | none => A.length
def lftA (A : List (Nat × Nat)) (a : Nat) : Nat := match A.getLast? with | some q => if q.2 = a then q.1 else a | none => a
def rgtN (B : List (Nat × Nat)) (e : Nat) : Nat := match B with | s :: _ => if s.1 = e then 1 else 0 | [] => 0
def rgtE (B : List (Nat × Nat)) (e : Nat) : Nat := match B with | s :: _ => if s.1 = e then s.2 else e | [] => e
def glue (A B : List (Nat × Nat)) (a e : Nat) : List (Nat × Nat) := (A ++ B).take (lftN A a) ++ [(lftA A a, rgtE B e)] ++ (A ++ B).drop (A.length + rgtN B e)
/-- The left side by cases. -/
theorem lft_cases (A : List (Nat × Nat)) (a : Nat) : (lftN A a = A.length ∧ lftA A a = a ∧ ∀ q, A.getLast? = some q → q.2 ≠ a) ∨ ∃ A0 q, A = A0 ++ [q] ∧ q.2 = a ∧ lftN A a = A0.length ∧ lftA A a = q.1 := by
  unfold lftN lftA
  cases h : A.getLast? with
  | none => left; simp
  | some q =>
    obtain ⟨A0, rfl⟩ := List.getLast?_eq_some_iff.1 h
    by_cases e : q.2 = a
    · right; exact ⟨A0, q, rfl, e, by simp [e], by simp [e]⟩
    · left; simp [e]
theorem rgt_cases (B : List (Nat × Nat)) (e : Nat) : (rgtN B e = 0 ∧ rgtE B e = e ∧ ∀ s B0, B = s :: B0 → s.1 ≠ e) ∨ ∃ s B0, B = s :: B0 ∧ s.1 = e ∧ rgtN B e = 1 ∧ rgtE B e = s.2 := by
  unfold rgtN rgtE
  cases B with
  | nil => left; simp
  | cons s B0 =>
    by_cases h : s.1 = e
    · right; exact ⟨s, B0, rfl, h, by simp [h], by simp [h]⟩
    · left; refine ⟨by simp [h], by simp [h], ?_⟩
      rintro s' B' ⟨rfl, rfl⟩
      exact h
theorem tk_mid (A0 B : List (Nat × Nat)) (q : Nat × Nat) : (A0 ++ [q] ++ B).take A0.length = A0 := by rw [List.append_assoc, List.take_left' rfl]
theorem tk_all (A B : List (Nat × Nat)) : (A ++ B).take A.length = A := List.take_left' rfl
theorem dr_0 (A B : List (Nat × Nat)) : (A ++ B).drop (A.length + 0) = B := List.drop_left' rfl
theorem dr_1 (A B0 : List (Nat × Nat)) (s : Nat × Nat) : (A ++ s :: B0).drop (A.length + 1) = B0 := by rw [← List.drop_drop, List.drop_left' rfl]; rfl
theorem glue_good {P : Nat} {A B : List (Nat × Nat)} {a e : Nat} (h : Good P 0 (A ++ B)) (hA : ∀ r ∈ A, (r.2 : Int) ≤ (a : Int)) (hB : ∀ s B0, B = s :: B0 → e ≤ s.1) (hae : a < e) (heP : e ≤ P) :
    Good P 0 (glue A B a e) ∧ ∀ p, usedB (glue A B a e) p = (usedB (A ++ B) p || inR (a, e) p) := by
  obtain ⟨gA, gB⟩ := (good_app P A B 0).1 h
  have R : ∃ X Y s2, (X ++ [(lftA A a, rgtE B e)] ++ Y) = glue A B a e ∧ Good P 0 X ∧ nxt 0 X ≤ lftA A a ∧ lftA A a ≤ a ∧ e ≤ rgtE B e ∧ rgtE B e ≤ P ∧ Good P (rgtE B e + 1) Y ∧
      (∀ p, (usedB X p || inR (lftA A a, a) p) = usedB A p) ∧ (∀ p, (inR (e, rgtE B e) p || usedB Y p) = usedB B p) ∧ s2 = 0 := by
    rcases lft_cases A a with ⟨n1, a1, l1⟩ | ⟨A0, q, rfl, hq, n1, a1⟩
    · have hX : nxt 0 A ≤ a := by
        cases hl : A.getLast? with
        | none =>
          rw [List.getLast?_eq_none_iff] at hl
          subst hl
          exact Nat.zero_le _
        | some q =>
          have hne := l1 q hl
          obtain ⟨A0, rfl⟩ := List.getLast?_eq_some_iff.1 hl
          rw [nxt_last]
          have := hA q (by simp)
          omega
      have u0 : ∀ p, inR (a, a) p = false := fun p => inR_false (by show p < a ∨ a ≤ p; omega)
      rcases rgt_cases B e with ⟨n2, a2, l2⟩ | ⟨s, B0, rfl, hs, n2, a2⟩
      · refine ⟨A, B, 0, ?_, gA, by rw [a1]; exact hX, by omega, by omega, by omega, ?_, ?_, ?_, rfl⟩
        · unfold glue; rw [n1, n2, tk_all, dr_0]
        · rw [a2]
          cases B with
          | nil => trivial
          | cons s B0 =>
            have := hB s B0 rfl
            have := l2 s B0 rfl
            exact ⟨by omega, gB.2⟩
        · intro p; rw [a1, u0]; simp
        · intro p; rw [a2, inR_false (by show p < e ∨ e ≤ p; omega)]; simp
      · have g2 := gB
        refine ⟨A, B0, 0, ?_, gA, by rw [a1]; exact hX, by omega, by rw [a2]; have := gB.2.1; omega, by rw [a2]; exact gB.2.2.1, by rw [a2]; exact gB.2.2.2, ?_, ?_, rfl⟩
        · unfold glue; rw [n1, n2, tk_all, dr_1]
        · intro p; rw [a1, u0]; simp
        · intro p; rw [a2, used_cons, ← hs]
    · have u1 : ∀ p, (usedB A0 p || inR (q.1, a) p) = usedB (A0 ++ [q]) p := fun p => by rw [used_app, ← hq]; simp [usedB]
      obtain ⟨gA0, gq⟩ := (good_app P A0 [q] 0).1 gA
      rw [nxt_last] at gB
      have hq1 := gq.1
      have hq2 := gq.2.1
      rcases rgt_cases B e with ⟨n2, a2, l2⟩ | ⟨s, B0, rfl, hs, n2, a2⟩
      · refine ⟨A0, B, 0, ?_, gA0, by rw [a1]; exact hq1, by omega, by omega, by omega, ?_, ?_, ?_, rfl⟩
        · unfold glue; rw [n1, n2, tk_mid, dr_0]
        · rw [a2]
          cases B with
          | nil => trivial
          | cons s B0 =>
            have := hB s B0 rfl
            have := l2 s B0 rfl
            exact ⟨by omega, gB.2⟩
        · intro p; rw [a1]; exact u1 p
        · intro p; rw [a2, inR_false (by show p < e ∨ e ≤ p; omega)]; simp
      · refine ⟨A0, B0, 0, ?_, gA0, by rw [a1]; exact hq1, by omega, by rw [a2]; have := gB.2.1; omega, by rw [a2]; exact gB.2.2.1, by rw [a2]; exact gB.2.2.2, ?_, ?_, rfl⟩
        · unfold glue; rw [n1, n2, tk_mid, dr_1]
        · intro p; rw [a1]; exact u1 p
        · intro p; rw [a2, used_cons, ← hs]
  obtain ⟨X, Y, _, hg, gX, h1, h2, h3, h4, gY, uA, uB, _⟩ := R
  rw [← hg]
  refine ⟨?_, ?_⟩
  · rw [List.append_assoc, good_app]
    exact ⟨gX, h1, by show lftA A a < rgtE B e; omega, h4, gY⟩
  · intro p
    rw [used_app, used_app, used_app A B, ← uA, ← uB, used_cons, used_nil]
    have : inR (lftA A a, rgtE B e) p = (inR (lftA A a, a) p || inR (a, e) p || inR (e, rgtE B e) p) := by
      unfold inR
      rw [Bool.eq_iff_iff]
      simp
      omega
    rw [this]
    cases usedB X p <;> cases usedB Y p <;> cases inR (lftA A a, a) p <;> cases inR (a, e) p <;> cases inR (e, rgtE B e) p <;> rfl
end Go.Proofs.YtboofamenpcnhaaGreatDoor
namespace Go.Proofs.YtboofamenpcnhaaGreatDoor
set_option maxRecDepth 100000
open Go.RowKit
set_option linter.unusedVariables false
set_option linter.unusedSimpArgs false
def fnd (n P : Nat) : Nat → List (Nat × Nat) → Option Nat
  | a, [] => if a + n ≤ P then some a else none
  | a, r :: L => if a + n ≤ r.1 then some a else fnd n P r.2 L
/-- n places from q on are there and free. -/
def FreeAt (U : Nat → Bool) (P n q : Nat) : Prop := q + n ≤ P ∧ ∀ j, j < n → U (q + j) = false
/-- The least such place, if any. -/
def Least (U : Nat → Bool) (P n : Nat) : Option Nat → Prop
  | some q => FreeAt U P n q ∧ ∀ p, p < q → ¬ FreeAt U P n p
  | none => ∀ p, ¬ FreeAt U P n p
theorem fnd_spec (n P : Nat) (hn : 0 < n) : ∀ (L : List (Nat × Nat)) (a lo : Nat), Good P lo L → a ≤ lo → (∀ q, fnd n P a L = some q → a ≤ q ∧ FreeAt (usedB L) P n q ∧ ∀ p, a ≤ p → p < q → ¬ FreeAt (usedB L) P n p) ∧ (fnd n P a L = none → ∀ p, a ≤ p → ¬ FreeAt (usedB L) P n p)
  | [], a, lo, _, _ => by
    unfold fnd
    by_cases h : a + n ≤ P
    · rw [if_pos h]
      refine ⟨?_, by intro h; cases h⟩
      rintro q ⟨rfl⟩
      exact ⟨Nat.le_refl _, ⟨h, fun _ _ => rfl⟩, fun p h1 h2 => by omega⟩
    · rw [if_neg h]
      refine ⟨by (intro q h; cases h), fun _ p hp hf => ?_⟩
      have := hf.1
      omega
  | r :: L, a, lo, hg, hlo => by
    obtain ⟨g1, g2, g3, g4⟩ := hg
    obtain ⟨i1, i2⟩ := fnd_spec n P hn L r.2 (r.2 + 1) g4 (Nat.le_succ _)
    have key : ∀ p, ¬ a + n ≤ r.1 → a ≤ p → FreeAt (usedB (r :: L)) P n p → r.2 ≤ p ∧ FreeAt (usedB L) P n p := fun p hc hp hf => by
      have hr : r.2 ≤ p := by
        apply Decidable.byContradiction
        intro hh
        by_cases hq : r.1 ≤ p
        · have := hf.2 0 hn
          rw [used_cons, inR_true (by omega) (by omega)] at this
          simp at this
        · have := hf.2 (r.1 - p) (by omega)
          rw [used_cons, inR_true (by omega) (by omega)] at this
          simp at this
      refine ⟨hr, hf.1, fun j hj => ?_⟩
      have := hf.2 j hj
      rw [used_cons] at this
      simp at this
      exact this.2
    unfold fnd
    by_cases h : a + n ≤ r.1
    · rw [if_pos h]
      refine ⟨?_, by intro h; cases h⟩
      rintro q ⟨rfl⟩
      refine ⟨Nat.le_refl _, ⟨by omega, fun j hj => ?_⟩, fun p h1 h2 => by omega⟩
      rw [used_cons, inR_false (by omega), used_lo g4 (by omega)]; rfl
    · rw [if_neg h]
      refine ⟨fun q hq => ?_, fun hq p hp hf => ?_⟩
      · obtain ⟨k1, k2, k3⟩ := i1 q hq
        refine ⟨by omega, ⟨k2.1, fun j hj => ?_⟩, fun p h1 h2 hf => ?_⟩
        · rw [used_cons, k2.2 j hj, inR_false (by omega)]; rfl
        · obtain ⟨k4, k5⟩ := key p h h1 hf
          exact k3 p k4 h2 k5
      · obtain ⟨k4, k5⟩ := key p h hp hf
        exact i2 hq p k4 k5
theorem fnd_least {n P : Nat} (hn : 0 < n) {L : List (Nat × Nat)} (hg : Good P 0 L) : Least (usedB L) P n (fnd n P 0 L) := by
  obtain ⟨h1, h2⟩ := fnd_spec n P hn L 0 0 hg (Nat.le_refl _)
  cases h : fnd n P 0 L with
  | none => exact fun p => h2 h p (Nat.zero_le _)
  | some q => exact ⟨(h1 q h).2.1, fun p hp => (h1 q h).2.2 p (Nat.zero_le _) hp⟩
theorem least_eq {U V : Nat → Bool} (e : ∀ p, U p = V p) {P n : Nat} {o : Option Nat} (h : Least U P n o) : Least V P n o := by
  have : U = V := funext e
  subst this
  exact h
theorem least_one {U : Nat → Bool} {P n : Nat} {o o' : Option Nat} (h : Least U P n o) (h' : Least U P n o') : o = o' := by
  cases o with
  | none => cases o' with
    | none => rfl
    | some q => exact absurd h'.1 (h q)
  | some q => cases o' with
    | none => exact absurd h.1 (h' q)
    | some q' =>
      congr 1
      rcases Nat.lt_trichotomy q q' with c | c | c
      · exact absurd h.1 (h'.2 q c)
      · exact c
      · exact absurd h'.1 (h.2 q' c)
def optI : Option Nat → Int
  | some q => q
  | none => -1
def cnt (f : Nat → Bool) : Nat → Nat
  | 0 => 0
  | p + 1 => cnt f p + (f p).toNat
def sumR : List (Nat × Nat) → Nat
  | [] => 0
  | r :: L => (r.2 - r.1) + sumR L
theorem cnt_le (f : Nat → Bool) (P : Nat) : cnt f P ≤ P := by
  induction P with
  | zero => exact Nat.le_refl _
  | succ P ih => unfold cnt; cases f P <;> simp <;> omega
theorem cnt_not (f : Nat → Bool) (P : Nat) : cnt f P + cnt (fun p => !f p) P = P := by
  induction P with
  | zero => rfl
  | succ P ih => unfold cnt; cases f P <;> simp <;> omega
theorem cnt_congr {f g : Nat → Bool} {P : Nat} (h : ∀ p, p < P → f p = g p) : cnt f P = cnt g P := by
  induction P with
  | zero => rfl
  | succ P ih => unfold cnt; rw [ih (fun p hp => h p (by omega)), h P (by omega)]
theorem cnt_or {f g : Nat → Bool} {P : Nat} (h : ∀ p, p < P → f p = true → g p = false) : cnt (fun p => f p || g p) P = cnt f P + cnt g P := by
  induction P with
  | zero => rfl
  | succ P ih =>
    have := h P (by omega)
    unfold cnt
    rw [ih (fun p hp => h p (by omega))]
    cases hf : f P <;> cases hg : g P <;> simp_all <;> omega
theorem cnt_in (r : Nat × Nat) (h : r.1 ≤ r.2) (P : Nat) : cnt (inR r) P = min P r.2 - min P r.1 := by
  induction P with
  | zero => simp [cnt]
  | succ P ih =>
    unfold cnt
    rw [ih]
    by_cases hp : r.1 ≤ P ∧ P < r.2
    · rw [inR_true hp.1 hp.2]; simp; omega
    · rw [inR_false (by omega)]; simp; omega
theorem cnt_used {P lo : Nat} {L : List (Nat × Nat)} (h : Good P lo L) : cnt (usedB L) P = sumR L := by
  induction L generalizing lo with
  | nil =>
    show cnt (usedB []) P = 0
    clear h
    induction P with
    | zero => rfl
    | succ P ih => unfold cnt; rw [ih]; rfl
  | cons r L ih =>
    obtain ⟨g1, g2, g3, g4⟩ := h
    have : cnt (usedB (r :: L)) P = cnt (fun p => inR r p || usedB L p) P := rfl
    rw [this, cnt_or, ih g4, cnt_in r (by omega)]
    · show _ = (r.2 - r.1) + sumR L; omega
    · intro p _ hp
      have hp := of_decide_eq_true hp
      exact used_lo g4 (by omega)
theorem sumR_app (A B : List (Nat × Nat)) : sumR (A ++ B) = sumR A + sumR B := by
  induction A with
  | nil => simp [sumR]
  | cons r A ih => simp only [List.cons_append, sumR, ih]; omega
set_option maxHeartbeats 1600000 in
set_option maxRecDepth 100000 in
theorem left_any (w : World) (D P : Nat) (v : Value) (L : List (Nat × Nat)) (h : MapIn w D P v L) (hg : Good P 0 L) (hP : P ≤ 5000) :
    Calls Tryz.prog 38 #[.pointer (some ⟨D, 0, none⟩)] w (None w (.int .i64 ((P - sumR L : Nat) : Int))) := by
  have hlen := good_len0 hg
  have hsum : ∀ i, i ≤ L.length → sumR (L.take i) ≤ P := fun i hi => by
    have := cnt_used hg
    have h2 := cnt_le (usedB L) P
    have h3 := sumR_app (L.take i) (L.drop i)
    rw [List.take_append_drop] at h3
    omega
  have hstep : ∀ i (hi : i < L.length), sumR (L.take (i + 1)) = sumR (L.take i) + (L[i].2 - L[i].1) ∧ L[i].1 < L[i].2 ∧ L[i].2 ≤ P := fun i hi => by
    have hm := good_mem hg L[i] (List.getElem_mem _)
    rw [List.take_succ_eq_append_getElem hi, sumR_app]
    exact ⟨by simp [sumR], hm.2⟩
  have c0 := h.cell0
  have c1 := h.cell1
  obtain ⟨a, cap, rfl⟩ := own_shape h.own
  have HH := Lib.hid h
  have HS := Lib.hid hsum
  have HT := Lib.hid hstep
  have HG := Lib.hid hg
  obtain ⟨n, hn⟩ : ∃ n, L.length = n := ⟨_, rfl⟩
  obtain ⟨s, hs⟩ : ∃ s, P - sumR L = s := ⟨_, rfl⟩
  rw [hs]
  rw [hn] at c1 hlen
  have HN := Lib.hid hn
  have HX := Lib.hid hs
  clear h hsum hstep hg hn hs
  go_enter Tryz.func38, Tryz.ntmps38
  go_wp2
  go_loopw [3, 17] (fun lv iv wr => ∃ i : Nat, i ≤ n ∧ iv = .int .i64 (i : Int) ∧ lv = .int .i64 ((P - sumR (L.take i) : Nat) : Int) ∧ Turn (fun _ => False) w wr) (fun _ iv _ => (n - intOf iv).toNat)
  case atStart => exact ⟨0, Nat.zero_le _, rfl, by simp [sumR], Turn.refl _ _⟩
  case round =>
    obtain ⟨i, hi, rfl, rfl, T⟩ := hrel
    have hT := Lib.hid T
    by_cases hlt : i < n
    · have hiL : i < L.length := by rw [HN.out]; exact hlt
      obtain ⟨k1, k2, k3⟩ := HT.out i hiL
      have hsi := HS.out (i + 1) (by omega)
      obtain ⟨g, cap', he, e1, e2⟩ := own_get (HH.out.none T).own hiL
      cases he
      obtain ⟨x, hx⟩ : ∃ x, L[i].1 = x := ⟨_, rfl⟩
      obtain ⟨y, hy⟩ : ∃ y, L[i].2 = y := ⟨_, rfl⟩
      obtain ⟨S, hS⟩ : ∃ S, sumR (L.take i) = S := ⟨_, rfl⟩
      rw [hx, hy] at k1 k2
      rw [hy] at k3 e2
      rw [hx] at e1
      rw [hS] at k1 ⊢
      have hSP : S + (y - x) ≤ P := by omega
      obtain ⟨q, hq⟩ : ∃ q, P - S = q := ⟨_, rfl⟩
      rw [hq]
      have K1 := Lib.hid k1
      have hq2 : (y : Int) - (x : Int) ≤ (q : Int) := by omega
      have K2 := Lib.hid hq
      have hq3 : q ≤ P := by omega
      clear k1 hx hy hS T hq hsi
      go_wp2
      go_roundw
      case measure => simp [intOf]; omega
      case rel => exact ⟨i + 1, by omega, by simp, by have := K1.out; have := K2.out; congr 1; omega, hT.out.alloc _⟩
    · have : i = n := by omega
      subst this
      have hfin : sumR (L.take i) = sumR L := by rw [← HN.out, List.take_length]
      rw [hfin, HX.out]
      go_wp2
      go_ret
      exact ⟨rfl, hT.out⟩
end Go.Proofs.YtboofamenpcnhaaGreatDoor
namespace Go.Proofs.YtboofamenpcnhaaGreatDoor
set_option maxRecDepth 100000
open Go.RowKit
set_option linter.unusedVariables false
set_option linter.unusedSimpArgs false
set_option maxHeartbeats 1600000 in
set_option maxRecDepth 100000 in
theorem find_any (w : World) (D P : Nat) (v : Value) (L : List (Nat × Nat)) (h : MapIn w D P v L) (hg : Good P 0 L) (hP : P ≤ 5000) (N : Nat) (hN : 0 < N) (hN2 : N < 9223372036854775808) :
    Calls Tryz.prog 30 #[.pointer (some ⟨D, 0, none⟩), .int .i64 (N : Int)] w (None w (.int .i64 (optI (fnd N P 0 L)))) := by
  have hlen := good_len0 hg
  have hget : ∀ i (hi : i < L.length), L[i].1 < L[i].2 ∧ L[i].2 ≤ P := fun i hi => (good_mem hg L[i] (List.getElem_mem _)).2
  have hdrop : ∀ i (hi : i < L.length) a, fnd N P a (L.drop i) = if a + N ≤ L[i].1 then some a else fnd N P L[i].2 (L.drop (i + 1)) := fun i hi a => by
    rw [List.drop_eq_getElem_cons hi]; rfl
  have c0 := h.cell0
  have c1 := h.cell1
  obtain ⟨av, cap, rfl⟩ := own_shape h.own
  have HH := Lib.hid h
  have HD := Lib.hid hdrop
  have HGT := Lib.hid hget
  obtain ⟨n, hn⟩ : ∃ n, L.length = n := ⟨_, rfl⟩
  obtain ⟨s, hs⟩ : ∃ s, fnd N P 0 L = s := ⟨_, rfl⟩
  rw [hs]
  rw [hn] at c1 hlen
  have HNN := Lib.hid hn
  have HX := Lib.hid hs
  have hN1 : ¬ ((N : Int) < 1) := by omega
  clear h hdrop hget hn hs
  go_enter Tryz.func30, Tryz.ntmps30
  go_wp2
  go_loopw [5, 19] (fun lv iv wr => ∃ i a : Nat, i ≤ n ∧ a ≤ P ∧ iv = .int .i64 (i : Int) ∧ lv = .int .i64 (a : Int) ∧ fnd N P a (L.drop i) = s ∧ Turn (fun _ => False) w wr) (fun _ iv _ => (n - intOf iv).toNat)
  case atStart => exact ⟨0, 0, Nat.zero_le _, Nat.zero_le _, rfl, rfl, by simpa using HX.out, Turn.refl _ _⟩
  case round =>
    obtain ⟨i, a, hi, ha, rfl, rfl, hf, T⟩ := hrel
    have hT := Lib.hid T
    have HF := Lib.hid hf
    clear hf
    by_cases hlt : i < n
    · have hiL : i < L.length := by rw [HNN.out]; exact hlt
      obtain ⟨k2, k3⟩ := HGT.out i hiL
      have k1 := HD.out i hiL a
      obtain ⟨g, cap', he, e1, e2⟩ := own_get (HH.out.none T).own hiL
      cases he
      obtain ⟨x, hx⟩ : ∃ x, L[i].1 = x := ⟨_, rfl⟩
      obtain ⟨y, hy⟩ : ∃ y, L[i].2 = y := ⟨_, rfl⟩
      rw [hx, hy] at k1 k2
      rw [hy] at k3 e2
      rw [hx] at e1
      have K1 := Lib.hid k1
      clear k1 hx hy T
      by_cases hc : a + N ≤ x
      · have hs : s = some a := by rw [← HF.out, K1.out, if_pos hc]
        have HS := Lib.hid hs
        clear hs
        have hcI : (N : Int) ≤ (x : Int) - (a : Int) := by omega
        go_wp2
        go_ret
        exact ⟨by rw [HS.out]; rfl, hT.out.alloc _⟩
      · have hcI : ¬ ((N : Int) ≤ (x : Int) - (a : Int)) := by omega
        go_wp2
        go_roundw
        case measure => simp [intOf]; omega
        case rel => exact ⟨i + 1, y, by omega, k3, by simp, rfl, by have := K1.out; rw [if_neg hc] at this; rw [← this]; exact HF.out, hT.out.alloc _⟩
    · have : i = n := by omega
      subst this
      have hfin : (L.drop i) = [] := List.drop_of_length_le (by rw [HNN.out]; exact Nat.le_refl _)
      have hs : s = if a + N ≤ P then some a else none := by rw [← HF.out, hfin]; rfl
      have HS := Lib.hid hs
      clear hs hfin
      have c0' := (HH.out.none T).cell0
      by_cases hc : a + N ≤ P
      · have hcI : (N : Int) ≤ (P : Int) - (a : Int) := by omega
        go_wp2
        go_ret
        exact ⟨by rw [HS.out, if_pos hc]; rfl, hT.out⟩
      · have hcI : ¬ ((N : Int) ≤ (P : Int) - (a : Int)) := by omega
        go_wp2
        go_ret
        exact ⟨by rw [HS.out, if_neg hc]; rfl, hT.out⟩
set_option maxHeartbeats 1600000 in
set_option maxRecDepth 100000 in
theorem new_anyE (w : World) (n : Int) (hn : -9223372036854775808 ≤ n ∧ n < 9223372036854775808) :
    Calls Tryz.prog 49 #[.int .i64 n] w (fun e w' => e = .returned (.pointer (some ⟨w.heap.size, 0, none⟩)) ∧ MapIn w' w.heap.size n.toNat (.slice none 0 0) [] ∧ Turn (fun _ => False) w w') := by
  obtain ⟨m, hm⟩ : ∃ m : Nat, m = n.toNat := ⟨_, rfl⟩
  have hmax : max n 0 = (m : Int) := by omega
  rw [← hm]
  clear hm
  go_enter Tryz.func49, Tryz.ntmps49
  go_wp2
  go_ret
  exact ⟨rfl, ⟨heap_alloc_new w _, World.ownsRow_nil _ _ _ _, by intro h; cases h⟩, (Turn.refl _ w).alloc _⟩
end Go.Proofs.YtboofamenpcnhaaGreatDoor
namespace Go.Proofs.YtboofamenpcnhaaGreatDoor
set_option maxRecDepth 100000
open Go.RowKit
set_option linter.unusedVariables false
set_option linter.unusedSimpArgs false
/-- A variable that is a run. -/
def BoxAt (w : World) (R x y : Nat) : Prop := w.heap[R]? = some (.cells #[.int .i64 (x : Int), .int .i64 (y : Int)] 122 (0, 0))
theorem BoxAt.lt {w : World} {R x y : Nat} (h : BoxAt w R x y) : R < w.heap.size := (Array.getElem?_eq_some_iff.1 h).1
theorem BoxAt.c0 {w : World} {R x y : Nat} (h : BoxAt w R x y) : w.cell? ⟨R, 0, none⟩ = some (.int .i64 (x : Int)) := cell_of_row w R 0 _ 122 (0, 0) h
theorem BoxAt.c1 {w : World} {R x y : Nat} (h : BoxAt w R x y) : w.cell? ⟨R, 1, none⟩ = some (.int .i64 (y : Int)) := cell_of_row w R 1 _ 122 (0, 0) h
theorem BoxAt.free {w : World} {R x y : Nat} (h : BoxAt w R x y) (i : Nat) : w.frozen? ⟨R, i, none⟩ = false := frozen_of_row w R i _ 122 h
theorem BoxAt.set0 {w : World} {R x y : Nat} (h : BoxAt w R x y) (z : Nat) : BoxAt (w.setCell ⟨R, 0, none⟩ (.int .i64 (z : Int))) R z y := by
  unfold BoxAt; rw [heap_setCell_same w R 0 _ 122 _ h]; rfl
theorem BoxAt.set1 {w : World} {R x y : Nat} (h : BoxAt w R x y) (z : Nat) : BoxAt (w.setCell ⟨R, 1, none⟩ (.int .i64 (z : Int))) R x z := by
  unfold BoxAt; rw [heap_setCell_same w R 1 _ 122 _ h]; rfl
/-- Where insert stands: the map as it was, and its own variable. -/
structure InSt (w0 w : World) (D P : Nat) (v : Value) (L : List (Nat × Nat)) (R x y : Nat) : Prop where
  map : MapIn w D P v L
  box : BoxAt w R x y
  new : w0.heap.size ≤ R
  old : MapIn w0 D P v L
  turn : Turn (fun _ => False) w0 w
theorem InSt.nD {w0 w : World} {D P : Nat} {v : Value} {L : List (Nat × Nat)} {R x y : Nat} (h : InSt w0 w D P v L R x y) : R ≠ D := by
  have := h.old.lt
  have := h.new
  omega
theorem InSt.nv {w0 w : World} {D P : Nat} {v : Value} {L : List (Nat × Nat)} {R x y : Nat} (h : InSt w0 w D P v L R x y) : v.ownBlock ≠ some R := by
  intro e
  have := (h.old.own.lt R e).2
  have := h.new
  omega
theorem InSt.drew {w0 w : World} {D P : Nat} {v : Value} {L : List (Nat × Nat)} {R x y : Nat} (h : InSt w0 w D P v L R x y) : InSt w0 w.drew D P v L R x y :=
  ⟨h.map.none (Turn.refl _ _).drew, h.box, h.new, h.old, h.turn.drew⟩
theorem InSt.set0 {w0 w : World} {D P : Nat} {v : Value} {L : List (Nat × Nat)} {R x y : Nat} (h : InSt w0 w D P v L R x y) (z : Nat) : InSt w0 (w.setCell ⟨R, 0, none⟩ (.int .i64 (z : Int))) D P v L R z y :=
  ⟨h.map.turn (S := fun k => k = R) (Turn.setCell (S := fun k => k = R) (Turn.refl _ w) (p := ⟨R, 0, none⟩) (fun _ => rfl) _) (fun e => h.nD e.symm) (fun k hk e => h.nv (by rw [hk, e])), h.box.set0 z, h.new, h.old, h.turn.setCell (p := ⟨R, 0, none⟩) (fun hh => absurd hh (Nat.not_lt.2 h.new)) _⟩
theorem InSt.set1 {w0 w : World} {D P : Nat} {v : Value} {L : List (Nat × Nat)} {R x y : Nat} (h : InSt w0 w D P v L R x y) (z : Nat) : InSt w0 (w.setCell ⟨R, 1, none⟩ (.int .i64 (z : Int))) D P v L R x z :=
  ⟨h.map.turn (S := fun k => k = R) (Turn.setCell (S := fun k => k = R) (Turn.refl _ w) (p := ⟨R, 1, none⟩) (fun _ => rfl) _) (fun e => h.nD e.symm) (fun k hk e => h.nv (by rw [hk, e])), h.box.set1 z, h.new, h.old, h.turn.setCell (p := ⟨R, 1, none⟩) (fun hh => absurd hh (Nat.not_lt.2 h.new)) _⟩
/-- What a map is behind a call that turned its runs. -/
def MPost (w : World) (D P : Nat) (v : Value) (L' : List (Nat × Nat)) (w' : World) : Prop :=
  ∃ v', MapIn w' D P v' L' ∧ Fresh w v v' ∧ Turn (fun k => k = D ∨ v.ownBlock = some k) w w'
/-- A slice of one run. -/
theorem one_run (w : World) (x y : Nat) : (w.alloc (.cells #[.int .i64 (x : Int), .int .i64 (y : Int)] 122)).ownsRow 0 122 2 (.slice (some ⟨w.heap.size, 0, none⟩) 1 1) [(x, y)].length (flat [(x, y)]) :=
  ⟨rfl, .inr ⟨w.heap.size, 1, #[.int .i64 (x : Int), .int .i64 (y : Int)], rfl, Nat.zero_le _, heap_alloc_new w _, Nat.le_refl _, by decide, rfl, rfl⟩⟩
/-- The end of it: the call of Replace is made, its answer is stored. -/
theorem in_end {w0 w w2 : World} {D P : Nat} {v v' : Value} {L L' : List (Nat × Nat)} {R x y : Nat} (h : InSt w0 w D P v L R x y) (o : Obj)
    (ho : w2.ownsRow 0 122 2 v' L'.length (flat L')) (hf : Fresh (w.alloc o) v v') (hT : Turn (fun k => v.ownBlock = some k) (w.alloc o) w2) :
    MPost w0 D P v L' (w2.setCell ⟨D, 1, none⟩ v') := by
  have hDs := h.map.lt
  have T1 : Turn (fun k => v.ownBlock = some k) w0 w2 := (h.turn.alloc o).mono (fun _ _ h => h.elim) |>.trans hT (fun _ _ => id)
  have hs : w0.heap.size ≤ (w.alloc o).heap.size := (h.turn.alloc o).size
  have hF : Fresh w0 v v' := (Fresh.refl _ _).trans hs hf
  have hvD : v'.ownBlock ≠ some D := by
    intro e
    exact h.map.apart (hf.old e (by simp; omega))
  have hD2 : w2.heap[D]? = some (.cells #[.int .i64 (P : Int), v] 120 (0, 0)) := by
    rw [hT.block D (by simp; omega) h.map.apart, Below.heap_alloc w o D hDs]
    exact h.map.head
  refine ⟨v', ⟨?_, ?_, hvD⟩, hF, ?_⟩
  · rw [heap_setCell_same w2 D 1 _ 120 _ hD2]; rfl
  · exact ((Turn.refl (fun k => k = D) w2).setCell (p := ⟨D, 1, none⟩) (fun _ => rfl) v').owns ho (fun k hk e => hvD (by rw [hk, e]))
  · exact Turn.setCell (S := fun k => k = D ∨ v.ownBlock = some k) (T1.mono (fun _ _ e => Or.inr e)) (p := ⟨D, 1, none⟩) (fun _ => .inl rfl) v'
/-- The variable stands behind the call. -/
theorem in_box {w0 w w2 : World} {D P : Nat} {v : Value} {L : List (Nat × Nat)} {R x y : Nat} (h : InSt w0 w D P v L R x y) (o : Obj) (hT : Turn (fun k => v.ownBlock = some k) (w.alloc o) w2) : w2.cell? ⟨R, 0, none⟩ = some (.int .i64 (x : Int)) ∧ w2.cell? ⟨R, 1, none⟩ = some (.int .i64 (y : Int)) := by
  have hb : BoxAt w2 R x y := by
    unfold BoxAt
    rw [hT.block R (by have := h.box.lt; simp; omega) h.nv, Below.heap_alloc w o R h.box.lt]
    exact h.box
  exact ⟨hb.c0, hb.c1⟩
theorem in_call {w0 w : World} {D P : Nat} {v : Value} {L : List (Nat × Nat)} {R x y : Nat} (h : InSt w0 w D P v L R x y) (fr to : Nat) (h1 : fr ≤ to) (h2 : to ≤ L.length) (hb : L.length ≤ 6000) :
    Calls Tryz.prog 101 #[v, .int .i64 (fr : Int), .int .i64 (to : Int), .slice (some ⟨w.heap.size, 0, none⟩) 1 1] (w.alloc (.cells #[.int .i64 (x : Int), .int .i64 (y : Int)] 122)) (ReplPost (w.alloc (.cells #[.int .i64 (x : Int), .int .i64 (y : Int)] 122)) v (L.take fr ++ [(x, y)] ++ L.drop to)) := by
  refine replace_any _ v _ fr to L [(x, y)] (h.map.none ((Turn.refl _ w).alloc _)).own (one_run w x y) ?_ (fun _ => by simp) (by simp; omega) h1 h2
  intro k hk e
  cases hk
  have := (h.map.own.lt w.heap.size e).2
  omega
theorem own_form {w : World} {v : Value} {L : List (Nat × Nat)} (h : w.ownsRow 0 122 2 v L.length (flat L)) : ∃ a n cap, v = .slice a n cap := by
  obtain ⟨a, cap, e⟩ := own_shape h
  exact ⟨a, _, cap, e⟩
theorem in_free {w0 w w2 : World} {D P : Nat} {v : Value} {L : List (Nat × Nat)} {R x y : Nat} (h : InSt w0 w D P v L R x y) (o : Obj) (hT : Turn (fun k => v.ownBlock = some k) (w.alloc o) w2) : w2.frozen? ⟨D, 1, none⟩ = false := by
  have hD2 : w2.heap[D]? = some (.cells #[.int .i64 (P : Int), v] 120 (0, 0)) := by
    rw [hT.block D (by have := h.map.lt; simp; omega) h.map.apart, Below.heap_alloc w o D h.map.lt]
    exact h.map.head
  exact frozen_of_row w2 D 1 _ 120 hD2
theorem in_some {w0 w w2 : World} {D P : Nat} {v : Value} {L : List (Nat × Nat)} {R x y : Nat} (h : InSt w0 w D P v L R x y) (o : Obj) (hT : Turn (fun k => v.ownBlock = some k) (w.alloc o) w2) : ∃ u, w2.cell? ⟨D, 1, none⟩ = some u := by
  have hD2 : w2.heap[D]? = some (.cells #[.int .i64 (P : Int), v] 120 (0, 0)) := by
    rw [hT.block D (by have := h.map.lt; simp; omega) h.map.apart, Below.heap_alloc w o D h.map.lt]
    exact h.map.head
  exact ⟨v, cell_of_row w2 D 1 _ 120 (0, 0) hD2⟩
theorem in_new {w : World} {R x y : Nat} (o : Obj) (b0 : w.cell? ⟨R, 0, none⟩ = some (.int .i64 (x : Int))) (b1 : w.cell? ⟨R, 1, none⟩ = some (.int .i64 (y : Int))) : (w.alloc o).cell? ⟨R, 0, none⟩ = some (.int .i64 (x : Int)) ∧ (w.alloc o).cell? ⟨R, 1, none⟩ = some (.int .i64 (y : Int)) := by
  rw [World.cell?_alloc_some _ _ _ (by rw [b0]; rfl), World.cell?_alloc_some _ _ _ (by rw [b1]; rfl)]
  exact ⟨b0, b1⟩
theorem in_newD {w : World} {D : Nat} {v : Value} (o : Obj) (b0 : w.cell? ⟨D, 1, none⟩ = some v) : (w.alloc o).cell? ⟨D, 1, none⟩ = some v := by
  rw [World.cell?_alloc_some _ _ _ (by rw [b0]; rfl)]
  exact b0
theorem in_last {w0 w w2 : World} {D P : Nat} {v v' : Value} {L : List (Nat × Nat)} {R x y : Nat} (h : InSt w0 w D P v L R x y) (hb : w2.cell? ⟨R, 0, none⟩ = some (.int .i64 (x : Int)) ∧ w2.cell? ⟨R, 1, none⟩ = some (.int .i64 (y : Int))) : (w2.setCell ⟨D, 1, none⟩ v').cell? ⟨R, 0, none⟩ = some (.int .i64 (x : Int)) ∧ (w2.setCell ⟨D, 1, none⟩ v').cell? ⟨R, 1, none⟩ = some (.int .i64 (y : Int)) := by
  rw [World.cell?_setCell_far _ _ _ _ (fun e => h.nD e.symm), World.cell?_setCell_far _ _ _ _ (fun e => h.nD e.symm)]
  exact hb
end Go.Proofs.YtboofamenpcnhaaGreatDoor
