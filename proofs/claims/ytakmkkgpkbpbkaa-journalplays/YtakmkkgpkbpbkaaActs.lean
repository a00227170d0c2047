/- Own: an argument that is a slice of acts, opened. No statement is proved here. -/
import Derived.Test.YtakmkkgpkbpbkaaOpen
namespace Go.Proofs.Ytakmkkgpkbpbkaa
open Go.ChangeShapes Go.WideShapes Go.ChangeAt Go.RowKit
set_option linter.unusedVariables false

/-- Bytes of an argument. -/
structure ArgB (w : World) (v : Value) (xs : List Int) : Prop where
  src : Src w v xs
  ok : BytesOk xs
  small : xs.length ≤ maxLen
  old : ∀ q, v.ownBlock = some q → 0 < xs.length → q < w.heap.size
theorem ArgB.turn {w w' : World} {v : Value} {xs : List Int} (h : ArgB w v xs) (T : Turn (fun _ => False) w w') : ArgB w' v xs := ⟨h.src.turn T (fun _ _ => id), h.ok, h.small, fun q h1 h2 => Nat.lt_of_lt_of_le (h.old q h1 h2) T.size⟩
/-- An act: where, its bytes, where it stops, what is safe. -/
structure ActAt (w : World) (g o i : Nat) (va vp vm : Value) (xa ps ms : List Int) (st : Int) : Prop where
  c0 : w.cell? ⟨g, o + i * 4, none⟩ = some va
  c1 : w.cell? ⟨g, o + i * 4 + 1, none⟩ = some vp
  c2 : w.cell? ⟨g, o + i * 4 + 2, none⟩ = some (.int .u8 st)
  c3 : w.cell? ⟨g, o + i * 4 + 3, none⟩ = some vm
  a : ArgB w va xa
  p : ArgB w vp ps
  m : ArgB w vm ms
  stOk : 0 ≤ st ∧ st < 256
theorem ActAt.turn {w w' : World} {g o i : Nat} {va vp vm : Value} {xa ps ms : List Int} {st : Int} (h : ActAt w g o i va vp vm xa ps ms st) (T : Turn (fun _ => False) w w') : ActAt w' g o i va vp vm xa ps ms st := by
  have hg : g < w.heap.size := World.block_lt_of_cell? w _ h.c0
  exact ⟨(T.cell (p := ⟨g, _, none⟩) hg id).trans h.c0, (T.cell (p := ⟨g, _, none⟩) hg id).trans h.c1, (T.cell (p := ⟨g, _, none⟩) hg id).trans h.c2, (T.cell (p := ⟨g, _, none⟩) hg id).trans h.c3, h.a.turn T, h.p.turn T, h.m.turn T, h.stOk⟩
theorem spot_none {w : World} {r : Reach} {b0 : Nat} {x : Addr} {l c : Nat} (hv : Value.okWide Try.prog w r b0 22 (.slice (some x) l c)) : x.spot = none := by
  simp only [Value.okWide, Try.underlying22, Cell.okWide, Cell.ok, World.has] at hv
  exact hv.2.2.2.1
theorem cells33 : Try.prog.cellsOf 33 = 4 := by kernel_rfl
theorem cells5 : Try.prog.cellsOf 5 = 1 := by kernel_rfl
theorem cells31 : Try.prog.cellsOf 31 = 1 := by kernel_rfl
theorem open_src {H : Type} {enc : TypeId × Value → H} {w : World} {base m : Nat} {held : Bool} {pv : Value} {x : DataW H × List MemPlace}
    (hf : DataW.trod enc Try.prog w base (fun _ => true) held m 31 [pv] = some x) : ∃ xs : List Int, ArgB w pv xs := by
  rcases open_ints Try.underlying31 Try.underlying5 (by kernel_rfl) hf with ⟨hcs, _⟩ | ⟨x, l, c, zs, hcs, _, hl, hm, hz, _, hcell, hwz⟩
  · obtain rfl : pv = .slice none 0 0 := by simpa using hcs
    exact ⟨[], .inl (.inl ⟨rfl, rfl⟩), fun x hx => by simp at hx, by simp, fun k _ h => by simp at h⟩
  · obtain rfl : pv = .slice (some x) l c := by simpa using hcs
    have hs := src_of_row (w := w) (x := x) hl (by simpa using hz) hcell
    refine ⟨zs.take l, hs, fun y hy => wf_u8 (hwz y (List.mem_of_mem_take hy)), by simp; omega, fun k hk hpos => ?_⟩
    obtain ⟨a, c, he, hc⟩ := src_any hs
    obtain ⟨_, g, o, rfl, hcc⟩ := hc hpos
    injection he with e1 e2 e3
    injection e1 with e1
    subst e1
    cases hk
    exact World.block_lt_of_cell? w _ (hcc 0 hpos)
def ActsIn (w : World) (v : Value) (n : Nat) : Prop := ∃ a c, v = .slice a n c ∧ n ≤ maxLen ∧ ∀ i, i < n → ∃ g o va vp vm xa ps ms st, a = some ⟨g, o, none⟩ ∧ ActAt w g o i va vp vm xa ps ms st
theorem ActsIn.turn {w w' : World} {v : Value} {n : Nat} (h : ActsIn w v n) (T : Turn (fun _ => False) w w') : ActsIn w' v n := by
  obtain ⟨a, c, e, hm, h⟩ := h
  refine ⟨a, c, e, hm, fun i hi => ?_⟩
  obtain ⟨g, o, va, vp, vm, xa, ps, ms, st, e1, e2⟩ := h i hi
  exact ⟨g, o, va, vp, vm, xa, ps, ms, st, e1, e2.turn T⟩
/-- An argument that is a slice of acts. -/
theorem open_acts {H : Type} {enc : TypeId × Value → H} {w : World} {base b0 : Nat} {r : Reach} {held : Bool} {v : Value} {d : DataW H} {p : List MemPlace}
    (hv : Value.okWide Try.prog w r b0 22 v) (h : DataW.Trod enc Try.prog w base (fun _ => true) held 22 v d p) : ∃ n, ActsIn w v n := by
  obtain ⟨a0, len0, cap0, rfl⟩ := okWide_slice Try.underlying22 hv
  obtain ⟨fuel, hf⟩ := h
  rcases DataW.trod_slice Try.underlying22 hf with ⟨hcs, _⟩ | ⟨x, l, c, elems, rest, m, _, hcs, _, hb, hl, hm, hlen, hel, _, _⟩
  · simp [Value.cells] at hcs
    obtain ⟨rfl, rfl, rfl⟩ := hcs
    exact ⟨0, _, _, rfl, by simp, fun i hi => by omega⟩
  · simp [Value.cells] at hcs
    obtain ⟨rfl, rfl, rfl⟩ := hcs
    have hs := spot_none hv
    obtain ⟨g, o, sp⟩ := x
    dsimp only at hs
    subst hs
    refine ⟨len0, _, _, rfl, by omega, fun i hi => ?_⟩
    have h1 := hel i hi
    rw [cells33] at h1
    obtain ⟨y, hy⟩ : ∃ y, elems[i]? = some y := ⟨elems[i]'(by omega), List.getElem?_eq_getElem (by omega)⟩
    rw [hy] at h1
    have hadd : ∀ q, (⟨g, o, none⟩ : Addr).add q = ⟨g, o + q, none⟩ := fun q => by unfold Addr.add; split <;> simp_all
    have hadd2 : ∀ q, (⟨g, o + i * 4, none⟩ : Addr).add q = ⟨g, o + i * 4 + q, none⟩ := fun q => by unfold Addr.add; split <;> simp_all
    rw [hadd] at h1
    obtain ⟨cs, hcs, htr⟩ := Option.bind_eq_some_iff.1 h1
    obtain ⟨_, hc3, hcell⟩ := World.cells?_some hcs
    obtain ⟨xs, n, _, _, _, hxl, hfs⟩ := DataW.trod_struct Try.underlying33 htr
    match cs, hc3 with
    | [v0, v1, v2, v3], _ =>
      have e0 := hcell 0 (by omega)
      have e1 := hcell 1 (by omega)
      have e2 := hcell 2 (by omega)
      have e3 := hcell 3 (by omega)
      rw [hadd2] at e0 e1 e2 e3
      have hx4 : xs.length = 4 := hxl
      have f0 := hfs 0 ⟨"At", 31, 0, false, "", "", 0⟩ rfl
      have f1 := hfs 1 ⟨"P", 31, 1, false, "", "", 24⟩ rfl
      have f2 := hfs 2 ⟨"Stop", 5, 2, false, "", "", 48⟩ rfl
      have f3 := hfs 3 ⟨"Mask", 31, 3, false, "", "", 56⟩ rfl
      dsimp only at f0 f1 f2 f3
      rw [cells31] at f0 f1 f3
      rw [cells5] at f2
      change DataW.trod enc Try.prog w base (fun _ => true) held n 31 [v0] = xs[0]? at f0
      change DataW.trod enc Try.prog w base (fun _ => true) held n 31 [v1] = xs[1]? at f1
      change DataW.trod enc Try.prog w base (fun _ => true) held n 5 [v2] = xs[2]? at f2
      change DataW.trod enc Try.prog w base (fun _ => true) held n 31 [v3] = xs[3]? at f3
      obtain ⟨y0, hy0⟩ : ∃ y, xs[0]? = some y := ⟨xs[0]'(by omega), List.getElem?_eq_getElem (by omega)⟩
      obtain ⟨y1, hy1⟩ : ∃ y, xs[1]? = some y := ⟨xs[1]'(by omega), List.getElem?_eq_getElem (by omega)⟩
      obtain ⟨y2, hy2⟩ : ∃ y, xs[2]? = some y := ⟨xs[2]'(by omega), List.getElem?_eq_getElem (by omega)⟩
      obtain ⟨y3, hy3⟩ : ∃ y, xs[3]? = some y := ⟨xs[3]'(by omega), List.getElem?_eq_getElem (by omega)⟩
      rw [hy0] at f0
      rw [hy1] at f1
      rw [hy2] at f2
      rw [hy3] at f3
      obtain ⟨xa, ha⟩ := open_src f0
      obtain ⟨ps, hp⟩ := open_src f1
      obtain ⟨k, hk, _, wk⟩ := DataW.trod_int Try.underlying5 f2
      obtain ⟨ms, hms⟩ := open_src f3
      obtain rfl : v2 = .int .u8 k := by simpa using hk
      exact ⟨g, o, v0, v1, v3, xa, ps, ms, k, rfl, ⟨by simpa using e0, by simpa using e1, by simpa using e2, by simpa using e3, ha, hp, hms, wf_u8 wk⟩⟩
end Go.Proofs.Ytakmkkgpkbpbkaa
