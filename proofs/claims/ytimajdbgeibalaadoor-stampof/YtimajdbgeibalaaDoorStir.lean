/- Own contracts: a block that is stirred in. No statement is proved here. -/
import Derived.Test.YtimajdbgeibalaaDoorSpread
namespace Go.Proofs.YtimajdbgeibalaaDoor
open Go.RowKit
set_option linter.unusedVariables false
set_option linter.unusedSimpArgs false

/-- The eight words of a sum. -/
structure Eight where
  a : Int
  b : Int
  c : Int
  d : Int
  e : Int
  f : Int
  g : Int
  h : Int

def S1 (e : Int) : Int := bits .xor .u32 (bits .xor .u32 (rotr 6 e) (rotr 11 e)) (rotr 25 e)
def S0 (a : Int) : Int := bits .xor .u32 (bits .xor .u32 (rotr 2 a) (rotr 13 a)) (rotr 22 a)
def ch (e f g : Int) : Int := bits .xor .u32 (bits .and .u32 e f) (bits .and .u32 (bits .xor .u32 IntKind.u32.max e) g)
def maj (a b c : Int) : Int := bits .xor .u32 (bits .xor .u32 (bits .and .u32 a b) (bits .and .u32 a c)) (bits .and .u32 b c)
def tt (e f g h y x : Int) : Int := (h + S1 e + ch e f g + y + x) % 4294967296
def uu (a b c : Int) : Int := (S0 a + maj a b c) % 4294967296
/-- One round. -/
def rnd (s : Eight) (y x : Int) : Eight :=
  ⟨(tt s.e s.f s.g s.h y x + uu s.a s.b s.c) % 4294967296, s.a, s.b, s.c, (s.d + tt s.e s.f s.g s.h y x) % 4294967296, s.e, s.f, s.g⟩
/-- The first k rounds. -/
def rnds (ks ws : List Int) (s : Eight) : Nat → Eight
  | 0 => s
  | k + 1 => rnd (rnds ks ws s k) (ks.getD k 0) (ws.getD k 0)

theorem Turn.drewN {S : Nat → Prop} {w w' : World} (h : Turn S w w') (k : Nat) : Turn S w (w'.drewN k) := ⟨h.os, h.tape, h.output, h.size, h.block⟩

theorem size41 : (Tryd.prog.info? 41).map (·.size) = some 8 := by kernel_rfl
def add32 (a b : Int) : Int := (a + b) % 4294967296
def addE (s t : Eight) : List Value :=
  [.int .u32 (add32 s.a t.a), .int .u32 (add32 s.b t.b), .int .u32 (add32 s.c t.c), .int .u32 (add32 s.d t.d), .int .u32 (add32 s.e t.e), .int .u32 (add32 s.f t.f), .int .u32 (add32 s.g t.g), .int .u32 (add32 s.h t.h)]
def StirPost (w : World) (s t : Eight) (e : Ending) (w' : World) : Prop := e = .returned (.agg (addE s t).toArray) ∧ Turn (fun _ => False) w w'

theorem stir_start (w W : World) (ss zs : List Value) (ws : List Int) (h : ((w.alloc (.cells ss.toArray 41)).alloc (.cells (ws.map (Value.int .u32)).toArray 52)).alloc (.cells zs.toArray 41) = W) :
    W.heap[w.heap.size]? = some (.cells ss.toArray 41 (0, 0)) ∧ Words W (w.heap.size + 1) 52 ws ∧ W.heap[w.heap.size + 1 + 1]? = some (.cells zs.toArray 41 (0, 0)) ∧ Turn (fun _ => False) w W := by
  subst h
  refine ⟨?_, ?_, ?_, (((Turn.refl _ w).alloc _).alloc _).alloc _⟩
  · rw [Below.heap_alloc _ _ _ (by simp; omega), heap_alloc2_old]
  · show (World.alloc _ _).heap[_]? = _
    rw [Below.heap_alloc _ _ _ (by simp), heap_alloc2_new]
  · have := heap_alloc_new ((w.alloc (.cells ss.toArray 41)).alloc (.cells (ws.map (Value.int .u32)).toArray 52)) (.cells zs.toArray 41)
    simpa using this

set_option maxHeartbeats 1000000 in
set_option maxRecDepth 100000 in
theorem stir_try (W : Array Value) (s0 s1 s2 s3 s4 s5 s6 s7 : Int) (ws ks : List Int) (w : World) (hW : W = (ws.map (Value.int .u32)).toArray) (hl : ws.length = 64) (hk : ks.length = 64) (hr : ∀ i, i < 64 → w.cell? ⟨1, i, none⟩ = some (.int .u32 (ks.getD i 0))) (h1 : 1 < w.heap.size) :
    Calls Tryd.prog 21 #[.agg #[.int .u32 s0, .int .u32 s1, .int .u32 s2, .int .u32 s3, .int .u32 s4, .int .u32 s5, .int .u32 s6, .int .u32 s7], .agg W] w (StirPost w ⟨s0, s1, s2, s3, s4, s5, s6, s7⟩ (rnds ks ws ⟨s0, s1, s2, s3, s4, s5, s6, s7⟩ 64)) := by
  subst hW
  have HR := Lib.hid hr
  clear hr
  go_enter Tryd.func21, Tryd.ntmps21
  go_wp2_with fail
  generalize hW : World.alloc (World.alloc (World.alloc w _) _) _ = W
  obtain ⟨q1, q2, q3, q4⟩ := stir_start w W [.int .u32 s0, .int .u32 s1, .int .u32 s2, .int .u32 s3, .int .u32 s4, .int .u32 s5, .int .u32 s6, .int .u32 s7] [.int .u32 0, .int .u32 0, .int .u32 0, .int .u32 0, .int .u32 0, .int .u32 0, .int .u32 0, .int .u32 0] ws hW
  clear hW
  have c0 : W.cell? ⟨w.heap.size, 0, none⟩ = some (.int .u32 s0) := cell_of_row W _ 0 _ 41 _ q1
  have c1 : W.cell? ⟨w.heap.size, 1, none⟩ = some (.int .u32 s1) := cell_of_row W _ 1 _ 41 _ q1
  have c2 : W.cell? ⟨w.heap.size, 2, none⟩ = some (.int .u32 s2) := cell_of_row W _ 2 _ 41 _ q1
  have c3 : W.cell? ⟨w.heap.size, 3, none⟩ = some (.int .u32 s3) := cell_of_row W _ 3 _ 41 _ q1
  have c4 : W.cell? ⟨w.heap.size, 4, none⟩ = some (.int .u32 s4) := cell_of_row W _ 4 _ 41 _ q1
  have c5 : W.cell? ⟨w.heap.size, 5, none⟩ = some (.int .u32 s5) := cell_of_row W _ 5 _ 41 _ q1
  have c6 : W.cell? ⟨w.heap.size, 6, none⟩ = some (.int .u32 s6) := cell_of_row W _ 6 _ 41 _ q1
  have c7 : W.cell? ⟨w.heap.size, 7, none⟩ = some (.int .u32 s7) := cell_of_row W _ 7 _ 41 _ q1
  go_quiet (fail)
  go_wp2_with fail
  go_loopw [5, 6, 7, 8, 9, 10, 11, 12, 34] (fun va vb vc vd ve vf vg vh i wr => ∃ (k : Nat) (a b c d e f g h : Int), rnds ks ws ⟨s0, s1, s2, s3, s4, s5, s6, s7⟩ k = ⟨a, b, c, d, e, f, g, h⟩ ∧ k ≤ 64 ∧ i = .int .i64 (k : Int) ∧ va = .int .u32 a ∧ vb = .int .u32 b ∧ vc = .int .u32 c ∧ vd = .int .u32 d ∧ ve = .int .u32 e ∧ vf = .int .u32 f ∧ vg = .int .u32 g ∧ vh = .int .u32 h ∧ wr.heap = W.heap ∧ Turn (fun _ => False) w wr) (fun _ _ _ _ _ _ _ _ i _ => 64 - (intOf i).toNat)
  case atStart => exact ⟨0, s0, s1, s2, s3, s4, s5, s6, s7, rfl, Nat.zero_le _, rfl, rfl, rfl, rfl, rfl, rfl, rfl, rfl, rfl, rfl, q4.drewN _⟩
  case round =>
    obtain ⟨k, a, b, c, d, e, f, g, z, hrn, hk', rfl, rfl, rfl, rfl, rfl, rfl, rfl, rfl, rfl, hheap, hT⟩ := hrel
    have Q2 : Words wr (w.heap.size + 1) 52 ws := by unfold Words; rw [hheap]; exact q2
    have HH := Lib.hid hheap
    have HRN := Lib.hid hrn
    clear hrn
    clear hheap
    by_cases hlt : k < 64
    · have cw := Q2.cell k (by omega)
      have cr := (hT.cell (p := ⟨1, k, none⟩) h1 id).trans (HR.out k hlt)
      obtain ⟨x, ex⟩ : ∃ x, ws.getD k 0 = x := ⟨_, rfl⟩
      obtain ⟨y, ey⟩ : ∃ y, ks.getD k 0 = y := ⟨_, rfl⟩
      rw [ex] at cw
      rw [ey] at cr
      have EX := Lib.hid ex
      have EY := Lib.hid ey
      have gm : 0 ≤ (k : Int) ∧ (k : Int) < 64 := by omega
      clear ex ey c0 c1 c2 c3 c4 c5 c6 c7
      go_wp2_with fail
      go_quiet (first | (go_at_call_of 26 (Value.int IntKind.i64 6); exact Calls.quiet_of_same ((turn_at _ 6 rfl e (by omega) (by omega) _).mono fun _ _ ⟨h, k⟩ => ⟨h, k.symm⟩)) | (go_at_call_of 26 (Value.int IntKind.i64 11); exact Calls.quiet_of_same ((turn_at _ 11 rfl e (by omega) (by omega) _).mono fun _ _ ⟨h, k⟩ => ⟨h, k.symm⟩)) | (go_at_call_of 26 (Value.int IntKind.i64 25); exact Calls.quiet_of_same ((turn_at _ 25 rfl e (by omega) (by omega) _).mono fun _ _ ⟨h, k⟩ => ⟨h, k.symm⟩)))
      have ht : ((z + bits .xor .u32 (bits .xor .u32 (rotr 6 e) (rotr 11 e)) (rotr 25 e) + bits .xor .u32 (bits .and .u32 e f) (bits .and .u32 (bits .xor .u32 IntKind.u32.max e) g) + y) % 4294967296 + x) % 4294967296 = tt e f g z y x := by
        unfold tt S1 ch; omega
      simp only [ht]
      have hT2 : Turn (fun _ => False) w (wr.drewN nq) := hT.drewN nq
      have HH2 : Hid ((wr.drewN nq).heap = W.heap) := HH.out
      generalize wr.drewN nq = w5 at hT2 HH2 ⊢
      generalize htt : tt e f g z y x = t
      have HTT := Lib.hid htt
      clear ht htt cw cr hT HH Q2
      go_wp2_with fail
      refine (turn_at _ 2 rfl a (by omega) (by omega) _).mono ?_
      rintro r w' ⟨rfl, rfl⟩
      go_wp2_with fail
      refine (turn_at _ 13 rfl a (by omega) (by omega) _).mono ?_
      rintro r w' ⟨rfl, rfl⟩
      go_wp2_with fail
      refine (turn_at _ 22 rfl a (by omega) (by omega) _).mono ?_
      rintro r w' ⟨rfl, rfl⟩
      go_wp2_with fail
      go_roundw
      case rel =>
        refine ⟨k + 1, (t + uu a b c) % 4294967296, a, b, c, (d + t) % 4294967296, e, f, g, ?_, by omega, by go_num, rfl, rfl, rfl, rfl, rfl, rfl, rfl, rfl, HH2.out, hT2⟩
        rw [rnds, HRN.out, EX.out, EY.out, rnd]
        simp only [HTT.out]
      case measure => simp [intOf]; omega
    · have hk64 : k = 64 := by omega
      have hfin := HRN.out
      rw [hk64] at hfin
      have HF := Lib.hid hfin
      have c0' : wr.cell? ⟨w.heap.size, 0, none⟩ = some (.int .u32 s0) := (World.cell?_of_block (w := W) (by rw [HH.out])).trans c0
      have c1' : wr.cell? ⟨w.heap.size, 1, none⟩ = some (.int .u32 s1) := (World.cell?_of_block (w := W) (by rw [HH.out])).trans c1
      have c2' : wr.cell? ⟨w.heap.size, 2, none⟩ = some (.int .u32 s2) := (World.cell?_of_block (w := W) (by rw [HH.out])).trans c2
      have c3' : wr.cell? ⟨w.heap.size, 3, none⟩ = some (.int .u32 s3) := (World.cell?_of_block (w := W) (by rw [HH.out])).trans c3
      have c4' : wr.cell? ⟨w.heap.size, 4, none⟩ = some (.int .u32 s4) := (World.cell?_of_block (w := W) (by rw [HH.out])).trans c4
      have c5' : wr.cell? ⟨w.heap.size, 5, none⟩ = some (.int .u32 s5) := (World.cell?_of_block (w := W) (by rw [HH.out])).trans c5
      have c6' : wr.cell? ⟨w.heap.size, 6, none⟩ = some (.int .u32 s6) := (World.cell?_of_block (w := W) (by rw [HH.out])).trans c6
      have c7' : wr.cell? ⟨w.heap.size, 7, none⟩ = some (.int .u32 s7) := (World.cell?_of_block (w := W) (by rw [HH.out])).trans c7
      have hth : wr.there (w.heap.size + 1 + 1) 0 8 := by
        intro j hj
        have hb : wr.heap[w.heap.size + 1 + 1]? = some (.cells [.int .u32 0, .int .u32 0, .int .u32 0, .int .u32 0, .int .u32 0, .int .u32 0, .int .u32 0, .int .u32 0].toArray 41 (0, 0)) := by rw [HH.out]; exact q3
        refine ⟨?_, frozen_of_row wr _ _ _ 41 hb⟩
        rw [cell_of_row wr _ _ _ 41 (0, 0) hb]
        simp; omega
      have hb : wr.heap[w.heap.size + 1 + 1]? = some (.cells [.int .u32 0, .int .u32 0, .int .u32 0, .int .u32 0, .int .u32 0, .int .u32 0, .int .u32 0, .int .u32 0].toArray 41 (0, 0)) := by rw [HH.out]; exact q3
      have z0 : wr.cell? ⟨w.heap.size + 1 + 1, 0, none⟩ = some (.int .u32 0) := cell_of_row wr _ 0 _ 41 _ hb
      have y0 : wr.frozen? ⟨w.heap.size + 1 + 1, 0, none⟩ = false := frozen_of_row wr _ 0 _ 41 hb
      have z1 : wr.cell? ⟨w.heap.size + 1 + 1, 1, none⟩ = some (.int .u32 0) := cell_of_row wr _ 1 _ 41 _ hb
      have y1 : wr.frozen? ⟨w.heap.size + 1 + 1, 1, none⟩ = false := frozen_of_row wr _ 1 _ 41 hb
      have z2 : wr.cell? ⟨w.heap.size + 1 + 1, 2, none⟩ = some (.int .u32 0) := cell_of_row wr _ 2 _ 41 _ hb
      have y2 : wr.frozen? ⟨w.heap.size + 1 + 1, 2, none⟩ = false := frozen_of_row wr _ 2 _ 41 hb
      have z3 : wr.cell? ⟨w.heap.size + 1 + 1, 3, none⟩ = some (.int .u32 0) := cell_of_row wr _ 3 _ 41 _ hb
      have y3 : wr.frozen? ⟨w.heap.size + 1 + 1, 3, none⟩ = false := frozen_of_row wr _ 3 _ 41 hb
      have z4 : wr.cell? ⟨w.heap.size + 1 + 1, 4, none⟩ = some (.int .u32 0) := cell_of_row wr _ 4 _ 41 _ hb
      have y4 : wr.frozen? ⟨w.heap.size + 1 + 1, 4, none⟩ = false := frozen_of_row wr _ 4 _ 41 hb
      have z5 : wr.cell? ⟨w.heap.size + 1 + 1, 5, none⟩ = some (.int .u32 0) := cell_of_row wr _ 5 _ 41 _ hb
      have y5 : wr.frozen? ⟨w.heap.size + 1 + 1, 5, none⟩ = false := frozen_of_row wr _ 5 _ 41 hb
      have z6 : wr.cell? ⟨w.heap.size + 1 + 1, 6, none⟩ = some (.int .u32 0) := cell_of_row wr _ 6 _ 41 _ hb
      have y6 : wr.frozen? ⟨w.heap.size + 1 + 1, 6, none⟩ = false := frozen_of_row wr _ 6 _ 41 hb
      have z7 : wr.cell? ⟨w.heap.size + 1 + 1, 7, none⟩ = some (.int .u32 0) := cell_of_row wr _ 7 _ 41 _ hb
      have y7 : wr.frozen? ⟨w.heap.size + 1 + 1, 7, none⟩ = false := frozen_of_row wr _ 7 _ 41 hb
      clear c0 c1 c2 c3 c4 c5 c6 c7 hfin hk64 q1 q2 q3 q4 Q2 hb
      go_wp2
      have hrg := World.rangeAt_setCells_same wr (w.heap.size + 1 + 1) 0 (addE ⟨s0, s1, s2, s3, s4, s5, s6, s7⟩ ⟨a, b, c, d, e, f, g, z⟩) (by simpa [addE] using hth)
      change bodyPost _ _ _ _ _ (wr.setCells (w.heap.size + 1 + 1) 0 (addE ⟨s0, s1, s2, s3, s4, s5, s6, s7⟩ ⟨a, b, c, d, e, f, g, z⟩))
      refine bodyPost_ret (v := .agg (addE ⟨s0, s1, s2, s3, s4, s5, s6, s7⟩ ⟨a, b, c, d, e, f, g, z⟩).toArray) (results_cell_mid Tryd.results21 _ _ (w.heap.size + 1 + 1) _ _ rfl hrg Tryd.underlying41 rfl size41) rfl ⟨by rw [HF.out], ?_⟩
      exact hT.trans (T := fun q => q = w.heap.size + 1 + 1) (turn_setCells _ _ _ _) (fun q hq h => by omega)
end Go.Proofs.YtimajdbgeibalaaDoor
