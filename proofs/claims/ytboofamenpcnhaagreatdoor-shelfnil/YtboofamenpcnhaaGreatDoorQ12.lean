/- Own texts, packed: ECut. -/
import Derived.Test.YtboofamenpcnhaaGreatDoorQ07
/- Own contract: places are taken out of a run. No statement is proved here. -/
namespace Go.Proofs.YtboofamenpcnhaaGreatDoor
set_option maxRecDepth 100000
open Go.RowKit
set_option linter.unusedVariables false
set_option linter.unusedSimpArgs false

theorem app_run (w : World) (v : Value) (L : List (Nat × Nat)) (x y : Nat) (hv : w.ownsRow 0 122 2 v L.length (flat L)) (hL : L.length ≤ 100) :
    ∃ a n c W, (Builtin.append_ #[118, 118] 118 #[v, .slice (some ⟨w.heap.size, 0, none⟩) 1 1]).run Tryz.prog (w.alloc (.cells #[.int .i64 (x : Int), .int .i64 (y : Int)] 122)) = .ok (.slice a n c) W ∧
      W.ownsRow 0 122 2 (.slice a n c) (L ++ [(x, y)]).length (flat (L ++ [(x, y)])) ∧ Fresh w v (.slice a n c) ∧ Turn (fun k => v.ownBlock = some k) w W := by
  obtain ⟨i0, hi0, h2, h3, hz⟩ := info43
  have T1 : Turn (fun _ => False) w (w.alloc (.cells #[.int .i64 (x : Int), .int .i64 (y : Int)] 122)) := (Turn.refl _ w).alloc _
  have hv1 := T1.owns hv (fun _ _ => id)
  have ho := one_run w x y
  have hc := ho.cells (g := w.heap.size) rfl
  obtain ⟨v', W, hr, q1, q2, q3⟩ := run_append_own (P := Tryz.prog) (w.alloc (.cells #[.int .i64 (x : Int), .int .i64 (y : Int)] 122)) 0 118 118 122 i0 _ 2 16 Tryz.underlying118 hi0 hz h2 h3 rfl (by decide) v L.length (flat L) hv1 ⟨w.heap.size, 0, none⟩ 1 1 (flat [(x, y)]) rfl hc (flat_one _) (by simp only [maxLen]; omega) (by omega) (Nat.zero_le _)
  have q4 := run_append_where (P := Tryz.prog) (w.alloc (.cells #[.int .i64 (x : Int), .int .i64 (y : Int)] 122)) 118 118 122 i0 _ 2 16 Tryz.underlying118 hi0 hz h2 h3 rfl (by decide) 0 v L.length (flat L) hv1 ⟨w.heap.size, 0, none⟩ 1 1 (flat [(x, y)]) rfl hc (flat_one _) (by simp only [maxLen]; omega) (by omega) v' W hr
  have q1' : W.ownsRow 0 122 2 v' (L ++ [(x, y)]).length (flat (L ++ [(x, y)])) := by rw [flat_app, List.length_append]; exact q1
  obtain ⟨a, n, c, rfl⟩ := own_form q1'
  exact ⟨a, n, c, W, hr, q1', (Fresh.refl _ _).trans T1.size q4, (T1.mono (fun _ _ h => h.elim)).grown q2 (fun k hk _ => hk)⟩

theorem BoxAt.none {w w' : World} {R x y : Nat} (h : BoxAt w R x y) (T : Turn (fun _ => False) w w') : BoxAt w' R x y := (T.block R h.lt id).trans h

/-- The last step of cut: Replace is called, its answer is stored. -/
theorem cut_call {w wr : World} {D P : Nat} {v lv : Value} {L vs : List (Nat × Nat)} {i : Nat} (h : MapIn w D P v L) (T : Turn (fun _ => False) w wr) (hl : wr.ownsRow 0 122 2 lv vs.length (flat vs)) (hn : ∀ k, lv.ownBlock = some k → w.heap.size ≤ k) (hi : i < L.length) (hb : L.length + vs.length ≤ 10000) :
    Calls Tryz.prog 101 #[v, .int .i64 (i : Int), .int .i64 ((i : Int) + 1), lv] wr (fun e w' => ∃ a n c u, e = .returned (.slice a n c) ∧ w'.frozen? ⟨D, 1, none⟩ = false ∧ w'.cell? ⟨D, 1, none⟩ = some u ∧ MPost w D P v (L.take i ++ vs ++ L.drop (i + 1)) (w'.setCell ⟨D, 1, none⟩ (.slice a n c))) := by
  have hm := h.none T
  refine (replace_any wr v lv i (i + 1) L vs hm.own hl ?_ (fun h => by omega) hb (by omega) (by omega)).mono ?_
  · intro k hk e
    have := (h.own.lt k e).2
    have := hn k hk
    omega
  · rintro e w2 ⟨v', rfl, o1, o2, o3⟩
    obtain ⟨a, n, c, rfl⟩ := own_form o1
    have hD2 : w2.heap[D]? = some (.cells #[.int .i64 (P : Int), v] 120 (0, 0)) := (o3.block D hm.lt hm.apart).trans hm.head
    have hF : Fresh w v (.slice a n c) := (Fresh.refl _ _).trans T.size o2
    have hvD : (Value.slice a n c).ownBlock ≠ some D := fun e => hm.apart (o2.old e hm.lt)
    refine ⟨a, n, c, v, rfl, frozen_of_row w2 D 1 _ 120 hD2, cell_of_row w2 D 1 _ 120 (0, 0) hD2, _, ⟨?_, ?_, hvD⟩, hF, ?_⟩
    · rw [heap_setCell_same w2 D 1 _ 120 _ hD2]; rfl
    · exact (Turn.setCell (S := fun k => k = D) (Turn.refl _ w2) (p := ⟨D, 1, none⟩) (fun _ => rfl) _).owns o1 (fun k hk e => hvD (by rw [hk, e]))
    · exact Turn.setCell (S := fun k => k = D ∨ v.ownBlock = some k) (((T.mono (fun _ _ h => h.elim)).trans o3 (fun _ _ => id)).mono (fun _ _ e => Or.inr e)) (p := ⟨D, 1, none⟩) (fun _ => .inl rfl) _

set_option maxHeartbeats 1600000 in
set_option maxRecDepth 100000 in
theorem cut_11 (w : World) (D P : Nat) (v : Value) (L : List (Nat × Nat)) (i a e x y : Nat) (h : MapIn w D P v L) (hb : L.length ≤ 6000) (hi : i < L.length) (hx : L[i].1 = x) (hy : L[i].2 = y)
    (c1 : x < a) (c2 : e < y) :
    Calls Tryz.prog 75 #[.pointer (some ⟨D, 0, none⟩), .int .i64 (i : Int), .agg #[.int .i64 (a : Int), .int .i64 (e : Int)]] w (fun en w' => en = .returned (.tuple #[]) ∧ MPost w D P v (L.take i ++ [(x, a), (e, y)] ++ L.drop (i + 1)) w') := by
  obtain ⟨w1, hw1⟩ : ∃ w1, w.alloc (.cells #[.int .i64 (a : Int), .int .i64 (e : Int)] 122) = w1 := ⟨_, rfl⟩
  obtain ⟨RB, hRB⟩ : ∃ RB, w.heap.size = RB := ⟨_, rfl⟩
  have T1 : Turn (fun _ => False) w w1 := by rw [← hw1]; exact (Turn.refl _ w).alloc _
  have B1 : BoxAt w1 RB a e := by rw [← hw1, ← hRB]; exact heap_alloc_new w _
  have M1 := h.none T1
  obtain ⟨g, cap, hv, e1, e2⟩ := own_get M1.own hi
  rw [hx] at e1
  rw [hy] at e2
  have d1 := M1.cell1
  rw [hv] at d1
  obtain ⟨w2, hw2⟩ : ∃ w2, w1.alloc (.cells #[.int .i64 (x : Int), .int .i64 (y : Int)] 122) = w2 := ⟨_, rfl⟩
  obtain ⟨RW, hRW⟩ : ∃ RW, w1.heap.size = RW := ⟨_, rfl⟩
  have T2' : Turn (fun _ => False) w1 w2 := by rw [← hw2]; exact (Turn.refl _ w1).alloc _
  have T2 : Turn (fun _ => False) w w2 := T1.trans T2' (fun _ _ => id)
  have X2 : BoxAt w2 RW x y := by rw [← hw2, ← hRW]; exact heap_alloc_new w1 _
  have B2 := B1.none T2'
  have hB2 := B2.lt
  have hX2 := X2.lt
  have b20 := B2.c0
  have b21 := B2.c1
  have x20 := X2.c0
  have x21 := X2.c1
  have c1I : (x : Int) < (a : Int) := by omega
  have c2I : (e : Int) < (y : Int) := by omega
  have O2 : w2.ownsRow 0 122 2 (.slice none 0 0) ([] : List (Nat × Nat)).length (flat []) := World.ownsRow_nil _ _ _ _
  have N2 : ∀ k, (Value.slice none 0 0).ownBlock = some k → w2.heap.size ≤ k := fun k hk => by cases hk
  have G2 : w2.heap.size ≤ w2.heap.size := Nat.le_refl _
  obtain ⟨a3, n3, k3, w3, hr3, O3, F3, U3⟩ := app_run w2 _ _ x a O2 (by simp)
  have T3 : Turn (fun _ => False) w w3 := T2.trans U3 (fun k hk e => by have := N2 k e; have := T2.size; omega)
  have G3 : w2.heap.size ≤ w3.heap.size := Nat.le_trans G2 U3.size
  have N3 : ∀ k, (Value.slice a3 n3 k3).ownBlock = some k → w2.heap.size ≤ k := fun k hk => by
    rcases F3 with f | ⟨g9, f, hg9⟩
    · exact N2 k (f.symm.trans hk)
    · rw [hk] at f; cases f; exact Nat.le_trans G2 hg9
  have B3 : BoxAt w3 RB a e := (U3.block RB B2.lt (fun e => by have := N2 RB e; omega)).trans B2
  have X3 : BoxAt w3 RW x y := (U3.block RW X2.lt (fun e => by have := N2 RW e; omega)).trans X2
  have b30 := B3.c0
  have b31 := B3.c1
  have x30 := X3.c0
  have x31 := X3.c1
  obtain ⟨a4, n4, k4, w4, hr4, O4, F4, U4⟩ := app_run w3 _ _ e y O3 (by simp)
  have T4 : Turn (fun _ => False) w w4 := T3.trans U4 (fun k hk e => by have := N3 k e; have := T2.size; omega)
  have G4 : w2.heap.size ≤ w4.heap.size := Nat.le_trans G3 U4.size
  have N4 : ∀ k, (Value.slice a4 n4 k4).ownBlock = some k → w2.heap.size ≤ k := fun k hk => by
    rcases F4 with f | ⟨g9, f, hg9⟩
    · exact N3 k (f.symm.trans hk)
    · rw [hk] at f; cases f; exact Nat.le_trans G3 hg9
  have B4 : BoxAt w4 RB a e := (U4.block RB B3.lt (fun e => by have := N3 RB e; omega)).trans B3
  have X4 : BoxAt w4 RW x y := (U4.block RW X3.lt (fun e => by have := N3 RW e; omega)).trans X3
  have b40 := B4.c0
  have b41 := B4.c1
  have x40 := X4.c0
  have x41 := X4.c1
  have hC := cut_call (i := i) h T4 O4 (fun k hk => Nat.le_trans T2.size (N4 k hk)) hi (by simp; omega)
  have dz := (h.none T4).cell1
  rw [hv] at dz hC ⊢
  try simp only [List.nil_append, List.cons_append] at hC
  obtain ⟨L', hL'⟩ : ∃ L', L.take i ++ [(x, a), (e, y)] ++ L.drop (i + 1) = L' := ⟨_, rfl⟩
  rw [hL'] at hC ⊢
  obtain ⟨n, hn⟩ : ∃ n, L.length = n := ⟨_, rfl⟩
  rw [hn] at d1 dz hC hi ⊢
  have HC := Lib.hid hC
  have HI := Lib.hid hi
  clear hL' hn hC T1 B1 M1 T2' T2 X2 B2 O2 N2 G2 hx hy hv h O3 F3 U3 T3 G3 N3 B3 X3 O4 F4 U4 T4 G4 N4 B4 X4
  go_enter Tryz.func75, Tryz.ntmps75
  go_wp2_with (first | (at_builtin; refine Lib.wpList_append_run _ rfl _ _ _ _ rfl _ _ rfl rfl _ _ hr3 ?_) | (at_builtin; refine Lib.wpList_append_run _ rfl _ _ _ _ rfl _ _ rfl rfl _ _ hr4 ?_))
  refine HC.out.mono ?_
  rintro e9 w9 ⟨a9, n9, k9, u9, rfl, f9, z9, m9⟩
  have HM := Lib.hid m9
  clear m9
  go_wp2_with fail
  go_end0
  exact ⟨rfl, HM.out⟩

set_option maxHeartbeats 1600000 in
set_option maxRecDepth 100000 in
theorem cut_10 (w : World) (D P : Nat) (v : Value) (L : List (Nat × Nat)) (i a e x y : Nat) (h : MapIn w D P v L) (hb : L.length ≤ 6000) (hi : i < L.length) (hx : L[i].1 = x) (hy : L[i].2 = y)
    (c1 : x < a) (c2 : ¬ e < y) :
    Calls Tryz.prog 75 #[.pointer (some ⟨D, 0, none⟩), .int .i64 (i : Int), .agg #[.int .i64 (a : Int), .int .i64 (e : Int)]] w (fun en w' => en = .returned (.tuple #[]) ∧ MPost w D P v (L.take i ++ [(x, a)] ++ L.drop (i + 1)) w') := by
  obtain ⟨w1, hw1⟩ : ∃ w1, w.alloc (.cells #[.int .i64 (a : Int), .int .i64 (e : Int)] 122) = w1 := ⟨_, rfl⟩
  obtain ⟨RB, hRB⟩ : ∃ RB, w.heap.size = RB := ⟨_, rfl⟩
  have T1 : Turn (fun _ => False) w w1 := by rw [← hw1]; exact (Turn.refl _ w).alloc _
  have B1 : BoxAt w1 RB a e := by rw [← hw1, ← hRB]; exact heap_alloc_new w _
  have M1 := h.none T1
  obtain ⟨g, cap, hv, e1, e2⟩ := own_get M1.own hi
  rw [hx] at e1
  rw [hy] at e2
  have d1 := M1.cell1
  rw [hv] at d1
  obtain ⟨w2, hw2⟩ : ∃ w2, w1.alloc (.cells #[.int .i64 (x : Int), .int .i64 (y : Int)] 122) = w2 := ⟨_, rfl⟩
  obtain ⟨RW, hRW⟩ : ∃ RW, w1.heap.size = RW := ⟨_, rfl⟩
  have T2' : Turn (fun _ => False) w1 w2 := by rw [← hw2]; exact (Turn.refl _ w1).alloc _
  have T2 : Turn (fun _ => False) w w2 := T1.trans T2' (fun _ _ => id)
  have X2 : BoxAt w2 RW x y := by rw [← hw2, ← hRW]; exact heap_alloc_new w1 _
  have B2 := B1.none T2'
  have hB2 := B2.lt
  have hX2 := X2.lt
  have b20 := B2.c0
  have b21 := B2.c1
  have x20 := X2.c0
  have x21 := X2.c1
  have c1I : (x : Int) < (a : Int) := by omega
  have c2I : ¬ (e : Int) < (y : Int) := by omega
  have O2 : w2.ownsRow 0 122 2 (.slice none 0 0) ([] : List (Nat × Nat)).length (flat []) := World.ownsRow_nil _ _ _ _
  have N2 : ∀ k, (Value.slice none 0 0).ownBlock = some k → w2.heap.size ≤ k := fun k hk => by cases hk
  have G2 : w2.heap.size ≤ w2.heap.size := Nat.le_refl _
  obtain ⟨a3, n3, k3, w3, hr3, O3, F3, U3⟩ := app_run w2 _ _ x a O2 (by simp)
  have T3 : Turn (fun _ => False) w w3 := T2.trans U3 (fun k hk e => by have := N2 k e; have := T2.size; omega)
  have G3 : w2.heap.size ≤ w3.heap.size := Nat.le_trans G2 U3.size
  have N3 : ∀ k, (Value.slice a3 n3 k3).ownBlock = some k → w2.heap.size ≤ k := fun k hk => by
    rcases F3 with f | ⟨g9, f, hg9⟩
    · exact N2 k (f.symm.trans hk)
    · rw [hk] at f; cases f; exact Nat.le_trans G2 hg9
  have B3 : BoxAt w3 RB a e := (U3.block RB B2.lt (fun e => by have := N2 RB e; omega)).trans B2
  have X3 : BoxAt w3 RW x y := (U3.block RW X2.lt (fun e => by have := N2 RW e; omega)).trans X2
  have b30 := B3.c0
  have b31 := B3.c1
  have x30 := X3.c0
  have x31 := X3.c1
  have hC := cut_call (i := i) h T3 O3 (fun k hk => Nat.le_trans T2.size (N3 k hk)) hi (by simp; omega)
  have dz := (h.none T3).cell1
  rw [hv] at dz hC ⊢
  try simp only [List.nil_append, List.cons_append] at hC
  obtain ⟨L', hL'⟩ : ∃ L', L.take i ++ [(x, a)] ++ L.drop (i + 1) = L' := ⟨_, rfl⟩
  rw [hL'] at hC ⊢
  obtain ⟨n, hn⟩ : ∃ n, L.length = n := ⟨_, rfl⟩
  rw [hn] at d1 dz hC hi ⊢
  have HC := Lib.hid hC
  have HI := Lib.hid hi
  clear hL' hn hC T1 B1 M1 T2' T2 X2 B2 O2 N2 G2 hx hy hv h O3 F3 U3 T3 G3 N3 B3 X3
  go_enter Tryz.func75, Tryz.ntmps75
  go_wp2_with (first | (at_builtin; refine Lib.wpList_append_run _ rfl _ _ _ _ rfl _ _ rfl rfl _ _ hr3 ?_))
  refine HC.out.mono ?_
  rintro e9 w9 ⟨a9, n9, k9, u9, rfl, f9, z9, m9⟩
  have HM := Lib.hid m9
  clear m9
  go_wp2_with fail
  go_end0
  exact ⟨rfl, HM.out⟩

set_option maxHeartbeats 1600000 in
set_option maxRecDepth 100000 in
theorem cut_01 (w : World) (D P : Nat) (v : Value) (L : List (Nat × Nat)) (i a e x y : Nat) (h : MapIn w D P v L) (hb : L.length ≤ 6000) (hi : i < L.length) (hx : L[i].1 = x) (hy : L[i].2 = y)
    (c1 : ¬ x < a) (c2 : e < y) :
    Calls Tryz.prog 75 #[.pointer (some ⟨D, 0, none⟩), .int .i64 (i : Int), .agg #[.int .i64 (a : Int), .int .i64 (e : Int)]] w (fun en w' => en = .returned (.tuple #[]) ∧ MPost w D P v (L.take i ++ [(e, y)] ++ L.drop (i + 1)) w') := by
  obtain ⟨w1, hw1⟩ : ∃ w1, w.alloc (.cells #[.int .i64 (a : Int), .int .i64 (e : Int)] 122) = w1 := ⟨_, rfl⟩
  obtain ⟨RB, hRB⟩ : ∃ RB, w.heap.size = RB := ⟨_, rfl⟩
  have T1 : Turn (fun _ => False) w w1 := by rw [← hw1]; exact (Turn.refl _ w).alloc _
  have B1 : BoxAt w1 RB a e := by rw [← hw1, ← hRB]; exact heap_alloc_new w _
  have M1 := h.none T1
  obtain ⟨g, cap, hv, e1, e2⟩ := own_get M1.own hi
  rw [hx] at e1
  rw [hy] at e2
  have d1 := M1.cell1
  rw [hv] at d1
  obtain ⟨w2, hw2⟩ : ∃ w2, w1.alloc (.cells #[.int .i64 (x : Int), .int .i64 (y : Int)] 122) = w2 := ⟨_, rfl⟩
  obtain ⟨RW, hRW⟩ : ∃ RW, w1.heap.size = RW := ⟨_, rfl⟩
  have T2' : Turn (fun _ => False) w1 w2 := by rw [← hw2]; exact (Turn.refl _ w1).alloc _
  have T2 : Turn (fun _ => False) w w2 := T1.trans T2' (fun _ _ => id)
  have X2 : BoxAt w2 RW x y := by rw [← hw2, ← hRW]; exact heap_alloc_new w1 _
  have B2 := B1.none T2'
  have hB2 := B2.lt
  have hX2 := X2.lt
  have b20 := B2.c0
  have b21 := B2.c1
  have x20 := X2.c0
  have x21 := X2.c1
  have c1I : ¬ (x : Int) < (a : Int) := by omega
  have c2I : (e : Int) < (y : Int) := by omega
  have O2 : w2.ownsRow 0 122 2 (.slice none 0 0) ([] : List (Nat × Nat)).length (flat []) := World.ownsRow_nil _ _ _ _
  have N2 : ∀ k, (Value.slice none 0 0).ownBlock = some k → w2.heap.size ≤ k := fun k hk => by cases hk
  have G2 : w2.heap.size ≤ w2.heap.size := Nat.le_refl _
  obtain ⟨a4, n4, k4, w4, hr4, O4, F4, U4⟩ := app_run w2 _ _ e y O2 (by simp)
  have T4 : Turn (fun _ => False) w w4 := T2.trans U4 (fun k hk e => by have := N2 k e; have := T2.size; omega)
  have G4 : w2.heap.size ≤ w4.heap.size := Nat.le_trans G2 U4.size
  have N4 : ∀ k, (Value.slice a4 n4 k4).ownBlock = some k → w2.heap.size ≤ k := fun k hk => by
    rcases F4 with f | ⟨g9, f, hg9⟩
    · exact N2 k (f.symm.trans hk)
    · rw [hk] at f; cases f; exact Nat.le_trans G2 hg9
  have B4 : BoxAt w4 RB a e := (U4.block RB B2.lt (fun e => by have := N2 RB e; omega)).trans B2
  have X4 : BoxAt w4 RW x y := (U4.block RW X2.lt (fun e => by have := N2 RW e; omega)).trans X2
  have b40 := B4.c0
  have b41 := B4.c1
  have x40 := X4.c0
  have x41 := X4.c1
  have hC := cut_call (i := i) h T4 O4 (fun k hk => Nat.le_trans T2.size (N4 k hk)) hi (by simp; omega)
  have dz := (h.none T4).cell1
  rw [hv] at dz hC ⊢
  try simp only [List.nil_append, List.cons_append] at hC
  obtain ⟨L', hL'⟩ : ∃ L', L.take i ++ [(e, y)] ++ L.drop (i + 1) = L' := ⟨_, rfl⟩
  rw [hL'] at hC ⊢
  obtain ⟨n, hn⟩ : ∃ n, L.length = n := ⟨_, rfl⟩
  rw [hn] at d1 dz hC hi ⊢
  have HC := Lib.hid hC
  have HI := Lib.hid hi
  clear hL' hn hC T1 B1 M1 T2' T2 X2 B2 O2 N2 G2 hx hy hv h O4 F4 U4 T4 G4 N4 B4 X4
  go_enter Tryz.func75, Tryz.ntmps75
  go_wp2_with (first | (at_builtin; refine Lib.wpList_append_run _ rfl _ _ _ _ rfl _ _ rfl rfl _ _ hr4 ?_))
  refine HC.out.mono ?_
  rintro e9 w9 ⟨a9, n9, k9, u9, rfl, f9, z9, m9⟩
  have HM := Lib.hid m9
  clear m9
  go_wp2_with fail
  go_end0
  exact ⟨rfl, HM.out⟩

set_option maxHeartbeats 1600000 in
set_option maxRecDepth 100000 in
theorem cut_00 (w : World) (D P : Nat) (v : Value) (L : List (Nat × Nat)) (i a e x y : Nat) (h : MapIn w D P v L) (hb : L.length ≤ 6000) (hi : i < L.length) (hx : L[i].1 = x) (hy : L[i].2 = y)
    (c1 : ¬ x < a) (c2 : ¬ e < y) :
    Calls Tryz.prog 75 #[.pointer (some ⟨D, 0, none⟩), .int .i64 (i : Int), .agg #[.int .i64 (a : Int), .int .i64 (e : Int)]] w (fun en w' => en = .returned (.tuple #[]) ∧ MPost w D P v (L.take i ++ [] ++ L.drop (i + 1)) w') := by
  obtain ⟨w1, hw1⟩ : ∃ w1, w.alloc (.cells #[.int .i64 (a : Int), .int .i64 (e : Int)] 122) = w1 := ⟨_, rfl⟩
  obtain ⟨RB, hRB⟩ : ∃ RB, w.heap.size = RB := ⟨_, rfl⟩
  have T1 : Turn (fun _ => False) w w1 := by rw [← hw1]; exact (Turn.refl _ w).alloc _
  have B1 : BoxAt w1 RB a e := by rw [← hw1, ← hRB]; exact heap_alloc_new w _
  have M1 := h.none T1
  obtain ⟨g, cap, hv, e1, e2⟩ := own_get M1.own hi
  rw [hx] at e1
  rw [hy] at e2
  have d1 := M1.cell1
  rw [hv] at d1
  obtain ⟨w2, hw2⟩ : ∃ w2, w1.alloc (.cells #[.int .i64 (x : Int), .int .i64 (y : Int)] 122) = w2 := ⟨_, rfl⟩
  obtain ⟨RW, hRW⟩ : ∃ RW, w1.heap.size = RW := ⟨_, rfl⟩
  have T2' : Turn (fun _ => False) w1 w2 := by rw [← hw2]; exact (Turn.refl _ w1).alloc _
  have T2 : Turn (fun _ => False) w w2 := T1.trans T2' (fun _ _ => id)
  have X2 : BoxAt w2 RW x y := by rw [← hw2, ← hRW]; exact heap_alloc_new w1 _
  have B2 := B1.none T2'
  have hB2 := B2.lt
  have hX2 := X2.lt
  have b20 := B2.c0
  have b21 := B2.c1
  have x20 := X2.c0
  have x21 := X2.c1
  have c1I : ¬ (x : Int) < (a : Int) := by omega
  have c2I : ¬ (e : Int) < (y : Int) := by omega
  have O2 : w2.ownsRow 0 122 2 (.slice none 0 0) ([] : List (Nat × Nat)).length (flat []) := World.ownsRow_nil _ _ _ _
  have N2 : ∀ k, (Value.slice none 0 0).ownBlock = some k → w2.heap.size ≤ k := fun k hk => by cases hk
  have G2 : w2.heap.size ≤ w2.heap.size := Nat.le_refl _
  have hC := cut_call (i := i) h T2 O2 (fun k hk => Nat.le_trans T2.size (N2 k hk)) hi (by simp; omega)
  have dz := (h.none T2).cell1
  rw [hv] at dz hC ⊢
  try simp only [List.nil_append, List.cons_append] at hC
  obtain ⟨L', hL'⟩ : ∃ L', L.take i ++ [] ++ L.drop (i + 1) = L' := ⟨_, rfl⟩
  rw [hL'] at hC ⊢
  obtain ⟨n, hn⟩ : ∃ n, L.length = n := ⟨_, rfl⟩
  rw [hn] at d1 dz hC hi ⊢
  have HC := Lib.hid hC
  have HI := Lib.hid hi
  clear hL' hn hC T1 B1 M1 T2' T2 X2 B2 O2 N2 G2 hx hy hv h 
  go_enter Tryz.func75, Tryz.ntmps75
  go_wp2_with fail
  refine HC.out.mono ?_
  rintro e9 w9 ⟨a9, n9, k9, u9, rfl, f9, z9, m9⟩
  have HM := Lib.hid m9
  clear m9
  go_wp2_with fail
  go_end0
  exact ⟨rfl, HM.out⟩

theorem cut_any (w : World) (D P : Nat) (v : Value) (L : List (Nat × Nat)) (i a e : Nat) (h : MapIn w D P v L) (hb : L.length ≤ 6000) (hi : i < L.length) :
    Calls Tryz.prog 75 #[.pointer (some ⟨D, 0, none⟩), .int .i64 (i : Int), .agg #[.int .i64 (a : Int), .int .i64 (e : Int)]] w (fun en w' => en = .returned (.tuple #[]) ∧ MPost w D P v (L.take i ++ lefts L[i] a e ++ L.drop (i + 1)) w') := by
  unfold lefts
  by_cases c1 : L[i].1 < a
  · by_cases c2 : e < L[i].2
    · rw [if_pos c1, if_pos c2]; exact cut_11 w D P v L i a e _ _ h hb hi rfl rfl c1 c2
    · rw [if_pos c1, if_neg c2]; exact cut_10 w D P v L i a e _ _ h hb hi rfl rfl c1 c2
  · by_cases c2 : e < L[i].2
    · rw [if_neg c1, if_pos c2]; exact cut_01 w D P v L i a e _ _ h hb hi rfl rfl c1 c2
    · rw [if_neg c1, if_neg c2]; exact cut_00 w D P v L i a e _ _ h hb hi rfl rfl c1 c2
end Go.Proofs.YtboofamenpcnhaaGreatDoor
