/- Own: an argument that is a slice of acts, opened. No statement is proved here. -/
import Derived.Test.YtckeackepolhdaaOpen
namespace Go.Proofs.Ytckeackepolhdaa
open Go.ChangeShapes Go.WideShapes Go.ChangeAt Go.RowKit
set_option linter.unusedVariables false

/-- An act: what it is, where, its bytes. -/
structure ActM where
  k : Int
  at_ : Int
  p : List Int
structure ActAt (w : World) (g o i : Nat) (pv : Value) (a : ActM) : Prop where
  kind : w.cell? ⟨g, o + i * 3, none⟩ = some (.int .u8 a.k)
  place : w.cell? ⟨g, o + i * 3 + 1, none⟩ = some (.int .i64 a.at_)
  bytes : w.cell? ⟨g, o + i * 3 + 2, none⟩ = some pv
  src : Src w pv a.p
  ok : BytesOk a.p
  kOk : 0 ≤ a.k ∧ a.k < 256
  atOk : -9223372036854775808 ≤ a.at_ ∧ a.at_ < 9223372036854775808
  small : a.p.length ≤ maxLen
  old : ∀ q, pv.ownBlock = some q → 0 < a.p.length → q < w.heap.size
theorem spot_none {w : World} {r : Reach} {b0 : Nat} {x : Addr} {l c : Nat} (hv : Value.okWide Try.prog w r b0 22 (.slice (some x) l c)) : x.spot = none := by
  simp only [Value.okWide, Try.underlying22, Cell.okWide, Cell.ok, World.has] at hv
  exact hv.2.2.2.1
theorem cells30 : Try.prog.cellsOf 30 = 3 := by kernel_rfl
theorem cells5 : Try.prog.cellsOf 5 = 1 := by kernel_rfl
theorem cells3 : Try.prog.cellsOf 3 = 1 := by kernel_rfl
theorem cells27 : Try.prog.cellsOf 27 = 1 := by kernel_rfl
theorem open_src {H : Type} {enc : TypeId × Value → H} {w : World} {base m : Nat} {held : Bool} {pv : Value} {x : DataW H × List MemPlace}
    (hf : DataW.trod enc Try.prog w base (fun _ => true) held m 27 [pv] = some x) :
    ∃ xs : List Int, Src w pv xs ∧ BytesOk xs ∧ xs.length ≤ maxLen ∧ (∀ k, pv.ownBlock = some k → 0 < xs.length → k < w.heap.size) := by
  rcases open_ints Try.underlying27 Try.underlying5 (by kernel_rfl) hf with ⟨hcs, _⟩ | ⟨x, l, c, zs, hcs, _, hl, hm, hz, _, hcell, hwz⟩
  · obtain rfl : pv = .slice none 0 0 := by simpa using hcs
    exact ⟨[], .inl (.inl ⟨rfl, rfl⟩), fun x hx => by simp at hx, by simp, fun k _ h => by simp at h⟩
  · obtain rfl : pv = .slice (some x) l c := by simpa using hcs
    have hs := src_of_row (w := w) (x := x) hl (by simpa using hz) hcell
    refine ⟨zs.take l, hs, fun y hy => wf_u8 (hwz y (List.mem_of_mem_take hy)), by simp; omega, fun k hk hpos => ?_⟩
    obtain ⟨a, c, he, hc⟩ := src_any hs
    obtain ⟨_, g, o, rfl, hcc⟩ := hc hpos
    injection he with e1 e2 e3
    injection e1 with e1
    subst e1
    cases hk
    exact World.block_lt_of_cell? w _ (hcc 0 hpos)

/-- An argument that is a slice of acts. -/
theorem open_acts {H : Type} {enc : TypeId × Value → H} {w : World} {base b0 : Nat} {r : Reach} {held : Bool} {v : Value} {d : DataW H} {p : List MemPlace}
    (hv : Value.okWide Try.prog w r b0 22 v) (h : DataW.Trod enc Try.prog w base (fun _ => true) held 22 v d p) :
    v = .slice none 0 0 ∨ ∃ g o n cap, v = .slice (some ⟨g, o, none⟩) n cap ∧ n ≤ cap ∧ cap ≤ maxLen ∧ ∀ i, i < n → ∃ pv a, ActAt w g o i pv a := by
  obtain ⟨a0, len0, cap0, rfl⟩ := okWide_slice Try.underlying22 hv
  obtain ⟨fuel, hf⟩ := h
  rcases DataW.trod_slice Try.underlying22 hf with ⟨hcs, _⟩ | ⟨x, l, c, elems, rest, m, _, hcs, _, hb, hl, hm, hlen, hel, _, _⟩
  · left; simpa [Value.cells] using hcs
  · right
    simp [Value.cells] at hcs
    obtain ⟨rfl, rfl, rfl⟩ := hcs
    have hs := spot_none hv
    obtain ⟨g, o, sp⟩ := x
    dsimp only at hs
    subst hs
    refine ⟨g, o, len0, cap0, rfl, hl, hm, fun i hi => ?_⟩
    have h1 := hel i hi
    rw [cells30] at h1
    obtain ⟨y, hy⟩ : ∃ y, elems[i]? = some y := ⟨elems[i]'(by omega), List.getElem?_eq_getElem (by omega)⟩
    rw [hy] at h1
    have hadd : ∀ q, (⟨g, o, none⟩ : Addr).add q = ⟨g, o + q, none⟩ := fun q => by unfold Addr.add; split <;> simp_all
    have hadd2 : ∀ q, (⟨g, o + i * 3, none⟩ : Addr).add q = ⟨g, o + i * 3 + q, none⟩ := fun q => by unfold Addr.add; split <;> simp_all
    rw [hadd] at h1
    obtain ⟨cs, hcs, htr⟩ := Option.bind_eq_some_iff.1 h1
    obtain ⟨_, hc3, hcell⟩ := World.cells?_some hcs
    obtain ⟨xs, n, _, _, _, hxl, hfs⟩ := DataW.trod_struct Try.underlying30 htr
    match cs, hc3 with
    | [v0, v1, v2], _ =>
      have e0 := hcell 0 (by omega)
      have e1 := hcell 1 (by omega)
      have e2 := hcell 2 (by omega)
      rw [hadd2] at e0 e1 e2
      have hx3 : xs.length = 3 := hxl
      have f0 := hfs 0 ⟨"K", 5, 0, false, "", "", 0⟩ rfl
      have f1 := hfs 1 ⟨"At", 3, 1, false, "", "", 8⟩ rfl
      have f2 := hfs 2 ⟨"P", 27, 2, false, "", "", 16⟩ rfl
      dsimp only at f0 f1 f2
      rw [cells5] at f0
      rw [cells3] at f1
      rw [cells27] at f2
      change DataW.trod enc Try.prog w base (fun _ => true) held n 5 [v0] = xs[0]? at f0
      change DataW.trod enc Try.prog w base (fun _ => true) held n 3 [v1] = xs[1]? at f1
      change DataW.trod enc Try.prog w base (fun _ => true) held n 27 [v2] = xs[2]? at f2
      obtain ⟨y0, hy0⟩ : ∃ y, xs[0]? = some y := ⟨xs[0]'(by omega), List.getElem?_eq_getElem (by omega)⟩
      obtain ⟨y1, hy1⟩ : ∃ y, xs[1]? = some y := ⟨xs[1]'(by omega), List.getElem?_eq_getElem (by omega)⟩
      obtain ⟨y2, hy2⟩ : ∃ y, xs[2]? = some y := ⟨xs[2]'(by omega), List.getElem?_eq_getElem (by omega)⟩
      rw [hy0] at f0
      rw [hy1] at f1
      rw [hy2] at f2
      obtain ⟨k, hk, _, wk⟩ := DataW.trod_int Try.underlying5 f0
      obtain ⟨t, ht, _, wt⟩ := DataW.trod_int Try.underlying3 f1
      obtain ⟨ps, hsrc, hok, hsm, hold⟩ := open_src f2
      obtain rfl : v0 = .int .u8 k := by simpa using hk
      obtain rfl : v1 = .int .i64 t := by simpa using ht
      exact ⟨v2, ⟨k, t, ps⟩, ⟨by simpa using e0, by simpa using e1, by simpa using e2, hsrc, hok, wf_u8 wk, wf_i64 wt, hsm, hold⟩⟩
end Go.Proofs.Ytckeackepolhdaa
