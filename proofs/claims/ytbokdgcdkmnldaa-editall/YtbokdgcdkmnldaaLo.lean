/- Own contracts: edits: arguments. No statement is proved here. -/
import Derived.Test.YtbokdgcdkmnldaaLa
import Derived.Test.YtbokdgcdkmnldaaOp
import Derived.Test.YtbokdgcdkmnldaaOv
import Derived.Test.YtbokdgcdkmnldaaOa
namespace Go.Proofs.Ytbokdgcdkmnldaa
set_option maxRecDepth 100000
open Go.RowKit
set_option linter.unusedVariables false
set_option linter.unusedSimpArgs false

section
open Go.ChangeShapes Go.WideShapes Go.ChangeAt
theorem cells28 : Try.prog.cellsOf 28 = 16 := by kernel_rfl
theorem cells26 : Try.prog.cellsOf 26 = 2 := by kernel_rfl
/-- Sixteen cells that are an edit's. -/
theorem ed_of_cells {H : Type} {enc : TypeId × Value → H} {w : World} {base m : Nat} {held : Bool} {cs : List Value} {y : DataW H × List MemPlace} (hc : cs.length = 16)
    (htr : DataW.trod enc Try.prog w base (fun _ => true) held m 28 cs = some y) : ∃ o : Ed, cs = o.vals ∧ o.Ok := by
  obtain ⟨xs, n, _, _, _, hxl, hfs⟩ := DataW.trod_struct Try.underlying28 htr
  match cs, hc with
  | [v0, v1, v2, v3, v4, v5, v6, v7, v8, v9, v10, v11, v12, v13, v14, v15], _ =>
    have hxl : xs.length = 5 := hxl
    have f0 := hfs 0 ⟨"Op", 5, 0, false, "", "", 0⟩ rfl
    dsimp only at f0
    rw [cells5] at f0
    change DataW.trod enc Try.prog w base (fun _ => true) held n 5 [v0] = xs[0]? at f0
    obtain ⟨y0, hy0⟩ : ∃ y, xs[0]? = some y := ⟨xs[0]'(by omega), List.getElem?_eq_getElem (by omega)⟩
    rw [hy0] at f0
    obtain ⟨k0, hk0, _, wk0⟩ := DataW.trod_int Try.underlying5 f0
    obtain rfl : v0 = .int .u8 k0 := by simpa using hk0
    have f1 := hfs 1 ⟨"E", 24, 1, false, "", "", 8⟩ rfl
    dsimp only at f1
    rw [cells24] at f1
    change DataW.trod enc Try.prog w base (fun _ => true) held n 24 [v1, v2, v3, v4, v5, v6, v7, v8, v9, v10] = xs[1]? at f1
    obtain ⟨y1, hy1⟩ : ∃ y, xs[1]? = some y := ⟨xs[1]'(by omega), List.getElem?_eq_getElem (by omega)⟩
    rw [hy1] at f1
    obtain ⟨e, he, hek⟩ := el_of_cells rfl f1
    have f2 := hfs 2 ⟨"Field", 3, 11, false, "", "", 120⟩ rfl
    dsimp only at f2
    rw [cells3] at f2
    change DataW.trod enc Try.prog w base (fun _ => true) held n 3 [v11] = xs[2]? at f2
    obtain ⟨y2, hy2⟩ : ∃ y, xs[2]? = some y := ⟨xs[2]'(by omega), List.getElem?_eq_getElem (by omega)⟩
    rw [hy2] at f2
    obtain ⟨k2, hk2, _, wk2⟩ := DataW.trod_int Try.underlying3 f2
    obtain rfl : v11 = .int .i64 k2 := by simpa using hk2
    have f3 := hfs 3 ⟨"Old", 26, 12, false, "", "", 128⟩ rfl
    dsimp only at f3
    rw [cells26] at f3
    change DataW.trod enc Try.prog w base (fun _ => true) held n 26 [v12, v13] = xs[3]? at f3
    obtain ⟨y3, hy3⟩ : ∃ y, xs[3]? = some y := ⟨xs[3]'(by omega), List.getElem?_eq_getElem (by omega)⟩
    rw [hy3] at f3
    obtain ⟨a3, s3, h3, i3⟩ := vl_of_cells rfl f3
    have f4 := hfs 4 ⟨"New", 26, 14, false, "", "", 152⟩ rfl
    dsimp only at f4
    rw [cells26] at f4
    change DataW.trod enc Try.prog w base (fun _ => true) held n 26 [v14, v15] = xs[4]? at f4
    obtain ⟨y4, hy4⟩ : ∃ y, xs[4]? = some y := ⟨xs[4]'(by omega), List.getElem?_eq_getElem (by omega)⟩
    rw [hy4] at f4
    obtain ⟨a4, s4, h4, i4⟩ := vl_of_cells rfl f4
    have g0 := wf_u8 wk0
    have g2 := wf_i64 wk2
    refine ⟨⟨k0, e, k2, a3, s3, a4, s4⟩, ?_, ⟨⟨g0.1, by show k0 ≤ 255; omega⟩, hek, (by show I64 k2; unfold I64; omega), i3, i4⟩⟩
    unfold Ed.vals
    rw [← he, ← h3, ← h4]
    rfl
theorem open_ed {H : Type} {enc : TypeId × Value → H} {w : World} {base b0 : Nat} {r : Reach} {held : Bool} {v : Value} {d : DataW H} {p : List MemPlace}
    (hv : Value.okWide Try.prog w r b0 28 v) (h : DataW.Trod enc Try.prog w base (fun _ => true) held 28 v d p) : ∃ o : Ed, v = .agg o.vals.toArray ∧ o.Ok := by
  obtain ⟨cs, rfl, hsz⟩ := okWide_struct Try.underlying28 hv
  rw [cells28] at hsz
  obtain ⟨fuel, hf⟩ := h
  obtain ⟨l⟩ := cs
  obtain ⟨o, ho, hk⟩ := ed_of_cells (cs := l) (by simpa using hsz) hf
  exact ⟨o, by rw [ho], hk⟩
theorem list_of_ed {n : Nat} {P : Nat → Ed → Prop} (h : ∀ i, i < n → ∃ x, P i x) : ∃ l : List Ed, l.length = n ∧ ∀ i, i < n → P i (l.getD i ed0) := by
  refine ⟨List.ofFn fun i : Fin n => Classical.choose (h i i.2), by simp, fun i hi => ?_⟩
  have : (List.ofFn fun i : Fin n => Classical.choose (h i i.2)).getD i ed0 = Classical.choose (h i hi) := by simp [List.getD, hi]
  rw [this]
  exact Classical.choose_spec (h i hi)
/-- An argument that is a slice of elements. -/
theorem open_eds {H : Type} {enc : TypeId × Value → H} {w : World} {base b0 t : Nat} {r : Reach} {held : Bool} {v : Value} {d : DataW H} {p : List MemPlace} (hu : Try.prog.underlying t = some (.slice 28))
    (hv : Value.okWide Try.prog w r b0 t v) (h : DataW.Trod enc Try.prog w base (fun _ => true) held t v d p) : ∃ l : List Ed, EdV w v l ∧ l.length ≤ maxLen ∧ ∀ x ∈ l, x.Ok := by
  obtain ⟨a0, len0, cap0, rfl⟩ := okWide_slice hu hv
  obtain ⟨fuel, hf⟩ := h
  rcases DataW.trod_slice hu hf with ⟨hcs, _⟩ | ⟨x, l, c, elems, rest, m, _, hcs, _, hb, hl, hm, hlen, hel, _, _⟩
  · simp [Value.cells] at hcs
    obtain ⟨rfl, rfl, rfl⟩ := hcs
    exact ⟨[], .inl ⟨rfl, rfl⟩, by simp, fun x hx => by simp at hx⟩
  · simp [Value.cells] at hcs
    obtain ⟨rfl, rfl, rfl⟩ := hcs
    have hs := spot_none hu hv
    obtain ⟨g, o, sp⟩ := x
    dsimp only at hs
    subst hs
    obtain ⟨L, hL, hP⟩ := list_of_ed (n := len0) (P := fun i x => w.rangeAt g (o + i * 16) x.vals ∧ x.Ok) (fun i hi => by
      have h1 := hel i hi
      rw [cells28] at h1
      obtain ⟨y, hy⟩ : ∃ y, elems[i]? = some y := ⟨elems[i]'(by omega), List.getElem?_eq_getElem (by omega)⟩
      rw [hy] at h1
      rw [Addr.add_mid] at h1
      obtain ⟨cs, hcs, htr⟩ := Option.bind_eq_some_iff.1 h1
      obtain ⟨_, hc3, hcell⟩ := World.cells?_some hcs
      obtain ⟨q, rfl, hq⟩ := ed_of_cells hc3 htr
      refine ⟨q, fun j u hj => ?_, hq⟩
      have hjl : j < 16 := by have := (List.getElem?_eq_some_iff.1 hj).1; simpa [Ed.vlen] using this
      have := hcell j hjl
      rw [Addr.add_mid] at this
      rw [this]
      exact hj)
    subst hL
    refine ⟨L, .inr ⟨g, o, cap0, rfl, by omega, fun h0 => ?_, fun k hk => (hP k hk).1⟩, by omega, fun x hx => ?_⟩
    · have := (hP 0 h0).1 0 _ rfl
      exact World.block_lt_of_cell? w _ this
    · obtain ⟨i, hi, rfl⟩ := List.getElem_of_mem hx
      have := (hP i hi).2
      simpa [List.getD, hi] using this
end

end Go.Proofs.Ytbokdgcdkmnldaa
