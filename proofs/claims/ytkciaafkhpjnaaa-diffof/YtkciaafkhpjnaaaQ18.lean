/- Own texts, packed: Oa. No statement is proved here. -/
import Derived.Test.YtkciaafkhpjnaaaQ08
import Derived.Test.YtkciaafkhpjnaaaQ17
import Derived.Test.YtkciaafkhpjnaaaQ09
namespace Go.Proofs.Ytkciaafkhpjnaaa
set_option maxRecDepth 100000
open Go.RowKit
set_option linter.unusedVariables false
set_option linter.unusedSimpArgs false


open Go.ChangeShapes Go.WideShapes Go.ChangeAt
theorem cells70 : Try.prog.cellsOf 57 = 4 := by kernel_rfl
theorem a4_of_cells {H : Type} {enc : TypeId × Value → H} {w : World} {base m : Nat} {held : Bool} {cs : List Value} {y : DataW H × List MemPlace} (hc : cs.length = 4)
    (htr : DataW.trod enc Try.prog w base (fun _ => true) held m 57 cs = some y) : ∃ o : A4, cs = o.vals ∧ o.Ok := by
  obtain ⟨xs, n, _, _, _, hxl, hfs⟩ := DataW.trod_struct Try.underlying57 htr
  match cs, hc with
  | [v0, v1, v2, v3], _ =>
    have hxl : xs.length = 4 := hxl
    have f0 := hfs 0 ⟨"K", 5, 0, false, "", "", 0⟩ rfl
    dsimp only at f0
    rw [cells5] at f0
    change DataW.trod enc Try.prog w base (fun _ => true) held n 5 [v0] = xs[0]? at f0
    obtain ⟨y0, hy0⟩ : ∃ y, xs[0]? = some y := ⟨xs[0]'(by omega), List.getElem?_eq_getElem (by omega)⟩
    rw [hy0] at f0
    obtain ⟨k0, hk0, _, wk0⟩ := DataW.trod_int Try.underlying5 f0
    obtain rfl : v0 = .int .u8 k0 := by simpa using hk0
    have f1 := hfs 1 ⟨"A", 5, 1, false, "", "", 1⟩ rfl
    dsimp only at f1
    rw [cells5] at f1
    change DataW.trod enc Try.prog w base (fun _ => true) held n 5 [v1] = xs[1]? at f1
    obtain ⟨y1, hy1⟩ : ∃ y, xs[1]? = some y := ⟨xs[1]'(by omega), List.getElem?_eq_getElem (by omega)⟩
    rw [hy1] at f1
    obtain ⟨k1, hk1, _, wk1⟩ := DataW.trod_int Try.underlying5 f1
    obtain rfl : v1 = .int .u8 k1 := by simpa using hk1
    have f2 := hfs 2 ⟨"B", 5, 2, false, "", "", 2⟩ rfl
    dsimp only at f2
    rw [cells5] at f2
    change DataW.trod enc Try.prog w base (fun _ => true) held n 5 [v2] = xs[2]? at f2
    obtain ⟨y2, hy2⟩ : ∃ y, xs[2]? = some y := ⟨xs[2]'(by omega), List.getElem?_eq_getElem (by omega)⟩
    rw [hy2] at f2
    obtain ⟨k2, hk2, _, wk2⟩ := DataW.trod_int Try.underlying5 f2
    obtain rfl : v2 = .int .u8 k2 := by simpa using hk2
    have f3 := hfs 3 ⟨"C", 5, 3, false, "", "", 3⟩ rfl
    dsimp only at f3
    rw [cells5] at f3
    change DataW.trod enc Try.prog w base (fun _ => true) held n 5 [v3] = xs[3]? at f3
    obtain ⟨y3, hy3⟩ : ∃ y, xs[3]? = some y := ⟨xs[3]'(by omega), List.getElem?_eq_getElem (by omega)⟩
    rw [hy3] at f3
    obtain ⟨k3, hk3, _, wk3⟩ := DataW.trod_int Try.underlying5 f3
    obtain rfl : v3 = .int .u8 k3 := by simpa using hk3
    exact ⟨⟨k0, k1, k2, k3⟩, rfl, ⟨wf_u8 wk0, wf_u8 wk1, wf_u8 wk2, wf_u8 wk3⟩⟩
theorem list_of4 {n : Nat} {P : Nat → A4 → Prop} (h : ∀ i, i < n → ∃ x, P i x) : ∃ l : List A4, l.length = n ∧ ∀ i, i < n → P i (l.getD i a40) := by
  refine ⟨List.ofFn fun i : Fin n => Classical.choose (h i i.2), by simp, fun i hi => ?_⟩
  have : (List.ofFn fun i : Fin n => Classical.choose (h i i.2)).getD i a40 = Classical.choose (h i hi) := by simp [List.getD, hi]
  rw [this]
  exact Classical.choose_spec (h i hi)
/-- An argument that is a slice of acts. -/
theorem open_acts {H : Type} {enc : TypeId × Value → H} {w : World} {base b0 : Nat} {r : Reach} {held : Bool} {v : Value} {d : DataW H} {p : List MemPlace}
    (hv : Value.okWide Try.prog w r b0 22 v) (h : DataW.Trod enc Try.prog w base (fun _ => true) held 22 v d p) : ∃ l : List A4, ActsV w v l := by
  obtain ⟨a0, len0, cap0, rfl⟩ := okWide_slice Try.underlying22 hv
  obtain ⟨fuel, hf⟩ := h
  rcases DataW.trod_slice Try.underlying22 hf with ⟨hcs, _⟩ | ⟨x, l, c, elems, rest, m, _, hcs, _, hb, hl, hm, hlen, hel, _, _⟩
  · simp [Value.cells] at hcs
    obtain ⟨rfl, rfl, rfl⟩ := hcs
    exact ⟨[], .inl ⟨rfl, rfl⟩⟩
  · simp [Value.cells] at hcs
    obtain ⟨rfl, rfl, rfl⟩ := hcs
    have hs := spot_none Try.underlying22 hv
    obtain ⟨g, o, sp⟩ := x
    dsimp only at hs
    subst hs
    obtain ⟨L, hL, hP⟩ := list_of4 (n := len0) (P := fun i x => w.rangeAt g (o + i * 4) x.vals ∧ x.Ok) (fun i hi => by
      have h1 := hel i hi
      rw [cells70] at h1
      obtain ⟨y, hy⟩ : ∃ y, elems[i]? = some y := ⟨elems[i]'(by omega), List.getElem?_eq_getElem (by omega)⟩
      rw [hy] at h1
      rw [Addr.add_mid] at h1
      obtain ⟨cs, hcs, htr⟩ := Option.bind_eq_some_iff.1 h1
      obtain ⟨_, hc3, hcell⟩ := World.cells?_some hcs
      obtain ⟨q, rfl, hq⟩ := a4_of_cells hc3 htr
      refine ⟨q, fun j u hj => ?_, hq⟩
      have hjl : j < 4 := by have := (List.getElem?_eq_some_iff.1 hj).1; simpa [A4.vals] using this
      have := hcell j hjl
      rw [Addr.add_mid] at this
      rw [this]
      exact hj)
    subst hL
    refine ⟨L, .inr ⟨g, o, cap0, rfl, by omega, fun h0 => ?_, hP⟩⟩
    have := (hP 0 h0).1 0 _ rfl
    exact World.block_lt_of_cell? w _ this
/-- An argument that is a slice of bytes. -/
theorem open_bytes {H : Type} {enc : TypeId × Value → H} {w : World} {base b0 : Nat} {r : Reach} {held : Bool} {v : Value} {d : DataW H} {p : List MemPlace}
    (hv : Value.okWide Try.prog w r b0 60 v) (h : DataW.Trod enc Try.prog w base (fun _ => true) held 60 v d p) : ∃ xs : List Int, Src w v xs ∧ Bytes8 xs ∧ xs.length ≤ maxLen ∧ (∀ q, v.ownBlock = some q → 0 < xs.length → q < w.heap.size) := by
  obtain ⟨a0, len0, cap0, rfl⟩ := okWide_slice Try.underlying60 hv
  obtain ⟨fuel, hf⟩ := h
  rcases DataW.trod_slice Try.underlying60 hf with ⟨hcs, _⟩ | ⟨x, l, c, elems, rest, m, _, hcs, _, hb, hl, hm, hlen, hel, _, _⟩
  · simp [Value.cells] at hcs
    obtain ⟨rfl, rfl, rfl⟩ := hcs
    exact ⟨[], .inl (.inl ⟨rfl, rfl⟩), (fun x hx => by cases hx), by simp, (fun q _ h => by simp at h)⟩
  · simp [Value.cells] at hcs
    obtain ⟨rfl, rfl, rfl⟩ := hcs
    have hs := spot_none Try.underlying60 hv
    obtain ⟨g, o, sp⟩ := x
    dsimp only at hs
    subst hs
    have each : ∀ i, i < len0 → ∃ n : Int, w.cell? ⟨g, o + i, none⟩ = some (.int .u8 n) ∧ 0 ≤ n ∧ n < 256 := fun i hi => by
      have h1 := hel i hi
      rw [cells5] at h1
      obtain ⟨y, hy⟩ : ∃ y, elems[i]? = some y := ⟨elems[i]'(by omega), List.getElem?_eq_getElem (by omega)⟩
      rw [hy] at h1
      rw [Addr.add_mid] at h1
      obtain ⟨cs, hcs, htr⟩ := Option.bind_eq_some_iff.1 h1
      obtain ⟨_, hc3, hcell⟩ := World.cells?_some hcs
      match cs, hc3 with
      | [v0], _ =>
        obtain ⟨k, hk, _, wk⟩ := DataW.trod_int Try.underlying5 htr
        obtain rfl : v0 = .int .u8 k := by simpa using hk
        have := hcell 0 (by omega)
        rw [Addr.add_mid] at this
        simp only [Nat.mul_one, Nat.add_zero] at this
        exact ⟨k, by rw [this]; rfl, wf_u8 wk⟩
    refine ⟨List.ofFn fun i : Fin len0 => Classical.choose (each i i.2), .inl (.inr ⟨g, o, cap0, by simp, by simp; omega, fun i hi => ?_⟩), fun x hx => ?_, by simp; omega, fun q hq hpos => ?_⟩
    · have hi' : i < len0 := by simpa using hi
      have : (List.ofFn fun i : Fin len0 => Classical.choose (each i i.2)).getD i 0 = Classical.choose (each i hi') := by simp [List.getD, hi']
      rw [this]
      exact (Classical.choose_spec (each i hi')).1
    · obtain ⟨i, rfl⟩ := List.mem_ofFn.1 hx
      have := (Classical.choose_spec (each i i.2)).2
      omega
    · cases hq
      obtain ⟨_, h1, _⟩ := each 0 (by simpa using hpos)
      exact World.block_lt_of_cell? w _ h1
end Go.Proofs.Ytkciaafkhpjnaaa
