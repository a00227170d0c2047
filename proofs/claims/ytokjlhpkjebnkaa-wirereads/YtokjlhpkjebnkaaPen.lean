/- Own contracts: what a Pen's Num does. No statement is proved here. -/
import Derived.Test.YtokjlhpkjebnkaaRows
import Derived.Test.YtokjlhpkjebnkaaBase
import Derived.Lib.Hide
namespace Go.Proofs.Ytokjlhpkjebnkaa
open Go.RowKit

theorem Try.info5 : (Try.prog.info? 5).map (fun i => (i.zero, i.size, i.bytes)) = some (some (.int .u8 0), 1, 1) := by kernel_rfl

/-- A pen at block B holds the value v, whose own cells are the bytes xs. -/
structure PenIs (w : World) (base B : Nat) (v : Value) (xs : List Int) : Prop where
  cell : w.cell? ⟨B, 0, none⟩ = some v
  open_ : w.frozen? ⟨B, 0, none⟩ = false
  own : w.ownsRow base 5 1 v xs.length (xs.map (Value.int .u8))
  apart : v.ownBlock ≠ some B
  lt : B < w.heap.size

def PenPost (w : World) (base B : Nat) (v : Value) (ys : List Int) (e : Ending) (w' : World) : Prop :=
  e = .returned (.pointer (some ⟨B, 0, none⟩)) ∧ ∃ v', PenIs w' base B v' ys ∧ Fresh w v v' ∧ Turn (fun k => k = B ∨ v.ownBlock = some k) w w'

/-- One byte more: the pen's state behind 'w.P = append(w.P, x)'. -/
theorem pen_more {w w1 : World} {base B : Nat} {v v' : Value} {xs : List Int} {x : Int} (hp : PenIs w base B v xs) (o : Obj)
    (hown : w1.ownsRow base 5 1 v' (xs.length + 1) (xs.map (Value.int .u8) ++ [.int .u8 x])) (hg : (w.alloc o).grownBy w1 v.ownBlock) (hf : Fresh (w.alloc o) v v') :
    PenIs (w1.setCell ⟨B, 0, none⟩ v') base B v' (xs ++ [x]) ∧ Fresh w v v' ∧ Turn (fun k => k = B ∨ v.ownBlock = some k) w (w1.setCell ⟨B, 0, none⟩ v') := by
  have hlt := hp.lt
  have hs1 : w.heap.size + 1 ≤ w1.heap.size := by have := hg.size; simpa using this
  have hb : w1.heap[B]? = w.heap[B]? := (hg.block B (by simp; omega) (fun e => hp.apart e.symm)).trans (Below.heap_alloc w o B hlt)
  have hc1 : w1.cell? ⟨B, 0, none⟩ = some v := (World.cell?_of_block (w := w) hb).trans hp.cell
  have hf1 : w1.frozen? ⟨B, 0, none⟩ = false := (World.frozen?_of_block (w := w) hb).trans hp.open_
  have hne : v'.ownBlock ≠ some B := by
    intro h
    rcases hf with h' | ⟨g, h', hge⟩
    · exact hp.apart (h'.symm.trans h)
    · rw [h'] at h; cases h; simp at hge; omega
  have ht : Turn (fun k => k = B ∨ v.ownBlock = some k) w w1 := ((Turn.refl _ w).alloc o).grown hg (fun k h _ => .inr h)
  refine ⟨⟨?_, ?_, ?_, hne, ?_⟩, ?_, ht.setCell (fun _ => .inl rfl) v'⟩
  · rw [World.cell?_setCell_same _ _ _ hc1]
  · rw [World.frozen?_setCell]; exact hf1
  · have h2 : w1.ownsRow base 5 1 v' (xs ++ [x]).length ((xs ++ [x]).map (Value.int .u8)) := by simpa using hown
    have ht2 : Turn (fun k => k = B) w1 (w1.setCell ⟨B, 0, none⟩ v') := (Turn.refl (fun k => k = B) w1).setCell (p := ⟨B, 0, none⟩) (fun _ => rfl) v'
    exact ht2.owns h2 (fun k hk e => hne (by rw [hk, e]))
  · simp [World.setCell]; omega
  · rcases hf with h | ⟨g, h, hge⟩
    · exact .inl h
    · exact .inr ⟨g, h, by simp at hge; omega⟩


theorem one_cell (w : World) (x : Int) : ∀ (j : Nat) u, [Value.int .u8 x][j]? = some u → (w.alloc (.cells #[.int .u8 x] 5)).cell? ((⟨w.heap.size, 0, none⟩ : Addr).add j) = some u := by
  intro j u hj
  match j, hj with
  | 0, hj => simp at hj; subst hj; simp [Addr.add]

set_option maxHeartbeats 800000 in
set_option maxRecDepth 100000 in
theorem pen_num (base B : Nat) (n : Nat) (v : Value) (xs : List Int) (w : World) (hn : n < 9223372036854775808) (hl : xs.length + (numB n).length ≤ 70000000000000) (hbase : base ≤ w.heap.size)
    (hp : PenIs w base B v xs) :
    Calls Try.prog 42 #[.pointer (some ⟨B, 0, none⟩), .int .i64 (n : Int)] w (PenPost w base B v (xs ++ numB n)) := by
  obtain ⟨i0, hi, hz0, hz1, hz2⟩ := info_parts Try.info5
  go_enter Try.func42, Try.ntmps42
  go_wp2_with fail
  go_loopw [1] (fun t wr => ∃ (m : Nat) (vr : Value) (ys : List Int), t = .int .i64 (m : Int) ∧ m ≤ n ∧ xs ++ numB n = ys ++ numB m ∧ PenIs wr base B vr ys ∧ Fresh w v vr ∧ Turn (fun k => k = B ∨ v.ownBlock = some k) w wr) (fun t _ => (intOf t).toNat)
  case atStart => exact ⟨n, v, xs, rfl, Nat.le_refl _, rfl, hp, Fresh.refl _ _, Turn.refl _ _⟩
  case round =>
    obtain ⟨m, vr, ys, rfl, hm, hxs, hpr, hfr, htr⟩ := hrel
    have hcl := hpr.cell
    have hfz := hpr.open_
    have HX := Lib.hid hxs
    clear hxs
    have hys : ys.length + (numB m).length ≤ 70000000000000 := by have := congrArg List.length HX.out; simp only [List.length_append] at this; omega
    have hm0 := numB_pos m
    have hsz : base ≤ wr.heap.size := Nat.le_trans hbase htr.size
    by_cases hlt : m < 128
    · have HN := Lib.hid (numB_small hlt)
      go_wp2_with (at_builtin; refine wpList_append_where _ rfl (.tmp 25) (.tmp 29) 49 rfl base 5 i0 (.int .u8 0) 1 1 Try.underlying49 hi hz0 hz1 hz2 rfl (by decide) vr ys.length (ys.map (Value.int .u8)) rfl (hpr.own.alloc _) ⟨wr.heap.size, 0, none⟩ 1 1 [.int .u8 ((m : Int) + 128)] rfl rfl (one_cell _ _) ?c2 ?c3 ?c4 ?c5 ?_)
      case c2 => intro u hu; simp at hu; subst hu; rfl
      case c3 => unfold maxLen; omega
      case c4 => omega
      case c5 => simp; omega
      intro v' w1 hown hgrow hfresh _
      obtain ⟨g, cap', rfl⟩ : ∃ g cap', v' = .slice (some ⟨g, 0, none⟩) (ys.length + 1) cap' := by
        rcases hown.2 with ⟨_, h⟩ | ⟨g, cap', _, h, _⟩
        · omega
        · exact ⟨g, cap', h⟩
      obtain ⟨hP, hF, hT⟩ := pen_more hpr _ hown hgrow hfresh
      have hlt := hpr.lt
      have hb : w1.heap[B]? = wr.heap[B]? := (hgrow.block B (by simp; omega) (fun e => hpr.apart e.symm)).trans (Below.heap_alloc wr _ B hlt)
      have hc1 : w1.cell? ⟨B, 0, none⟩ = some vr := (World.cell?_of_block (w := wr) hb).trans hcl
      have hf1 : w1.frozen? ⟨B, 0, none⟩ = false := (World.frozen?_of_block (w := wr) hb).trans hfz
      clear hb hown hgrow hfresh
      go_wp2
      go_ret
      refine ⟨rfl, .slice (some ⟨g, 0, none⟩) (ys.length + 1) cap', ?_, ?_, ?_⟩
      · rw [HX.out, HN.out]; exact hP
      · exact hfr.trans htr.size hF
      · refine htr.trans hT ?_
        rintro k hk (h | h)
        · exact .inl h
        · exact .inr (hfr.old h hk)
    · have HN := Lib.hid (numB_big hlt)
      go_wp2_with (at_builtin; refine wpList_append_where _ rfl (.tmp 11) (.tmp 15) 49 rfl base 5 i0 (.int .u8 0) 1 1 Try.underlying49 hi hz0 hz1 hz2 rfl (by decide) vr ys.length (ys.map (Value.int .u8)) rfl (hpr.own.alloc _) ⟨wr.heap.size, 0, none⟩ 1 1 [.int .u8 ((m : Int) % 128)] rfl rfl (one_cell _ _) ?d2 ?d3 ?d4 ?d5 ?_)
      case d2 => intro u hu; simp at hu; subst hu; rfl
      case d3 => unfold maxLen; omega
      case d4 => omega
      case d5 => simp; omega
      intro v' w1 hown hgrow hfresh _
      obtain ⟨g, cap', rfl⟩ : ∃ g cap', v' = .slice (some ⟨g, 0, none⟩) (ys.length + 1) cap' := by
        rcases hown.2 with ⟨_, h⟩ | ⟨g, cap', _, h, _⟩
        · omega
        · exact ⟨g, cap', h⟩
      obtain ⟨hP, hF, hT⟩ := pen_more hpr _ hown hgrow hfresh
      have hlt := hpr.lt
      have hb : w1.heap[B]? = wr.heap[B]? := (hgrow.block B (by simp; omega) (fun e => hpr.apart e.symm)).trans (Below.heap_alloc wr _ B hlt)
      have hc1 : w1.cell? ⟨B, 0, none⟩ = some vr := (World.cell?_of_block (w := wr) hb).trans hcl
      have hf1 : w1.frozen? ⟨B, 0, none⟩ = false := (World.frozen?_of_block (w := wr) hb).trans hfz
      clear hb hown hgrow hfresh
      go_wp2
      go_roundw
      case rel =>
        refine ⟨m / 128, .slice (some ⟨g, 0, none⟩) (ys.length + 1) cap', ys ++ [((m % 128 : Nat) : Int)], by go_num, by omega, ?_, hP, hfr.trans htr.size hF, htr.trans hT ?_⟩
        · rw [HX.out, HN.out]; simp
        · rintro k hk (h | h)
          · exact .inl h
          · exact .inr (hfr.old h hk)
      case measure => simp [intOf]; omega

end Go.Proofs.Ytokjlhpkjebnkaa
