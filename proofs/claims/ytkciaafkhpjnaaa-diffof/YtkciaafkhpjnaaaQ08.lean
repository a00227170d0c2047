/- Own texts, packed: Op. No statement is proved here. -/
import Derived.Test.YtkciaafkhpjnaaaQ07
import Derived.WalkKit
import Derived.ProofKit
import Derived.OpenShut
import Derived.ShutString
import Derived.ChangeOld
import Derived.Below
import Derived.Deep.Slices
import Derived.Deep.Fields
import Derived.ChangeSame
namespace Go.Proofs.Ytkciaafkhpjnaaa
set_option maxRecDepth 100000
open Go.RowKit
set_option linter.unusedVariables false
set_option linter.unusedSimpArgs false

open Go.ChangeShapes Go.WideShapes Go.ChangeAt
theorem own : ownKnob Try.prog.godebug = none := by kernel_rfl
theorem laidOut : laidOutB Try.prog = true := by kernel_rfl
theorem wf_u8 {a : Int} (h : (Lit.int .u8 a).wf = true) : 0 ≤ a ∧ a < 256 := by
  have hh : 0 ≤ a ∧ a ≤ 255 := by simpa [Lit.wf, IntKind.min, IntKind.max, IntKind.signed, IntKind.bits] using h
  omega
theorem wf_i64 {a : Int} (h : (Lit.int .i64 a).wf = true) : -9223372036854775808 ≤ a ∧ a < 9223372036854775808 := by
  have hh : -9223372036854775808 ≤ a ∧ a ≤ 9223372036854775807 := by simpa [Lit.wf, IntKind.min, IntKind.max, IntKind.signed, IntKind.bits] using h
  omega
theorem cells24 : Try.prog.cellsOf 38 = 10 := by kernel_rfl
theorem cells5 : Try.prog.cellsOf 5 = 1 := by kernel_rfl
theorem cells3 : Try.prog.cellsOf 3 = 1 := by kernel_rfl
theorem cells9 : Try.prog.cellsOf 9 = 1 := by kernel_rfl
theorem trod_str {H : Type} {enc : TypeId × Value → H} {w : World} {base m : Nat} {sp : Nat → Bool} {held : Bool} {pv : Value} {x : DataW H × List MemPlace}
    (h : DataW.trod enc Try.prog w base sp held m 9 [pv] = some x) : ∃ s : ByteArray, pv = .string s ∧ s.size ≤ maxLen := by
  have hv : Value.okWide Try.prog w .any 0 9 pv ∨ True := .inr trivial
  clear hv
  obtain ⟨s, hs, _, hsz⟩ := DataW.trod_string Try.underlying9 h
  exact ⟨s, by simpa using hs, hsz⟩
/-- Ten cells that are an element's. -/
theorem el_of_cells {H : Type} {enc : TypeId × Value → H} {w : World} {base m : Nat} {held : Bool} {cs : List Value} {y : DataW H × List MemPlace} (hc : cs.length = 10)
    (htr : DataW.trod enc Try.prog w base (fun _ => true) held m 38 cs = some y) : ∃ o : El, cs = o.vals ∧ o.Ok := by
  obtain ⟨xs, n, _, _, _, hxl, hfs⟩ := DataW.trod_struct Try.underlying38 htr
  match cs, hc with
  | [v0, v1, v2, v3, v4, v5, v6, v7, v8, v9], _ =>
    have hxl : xs.length = 10 := hxl
    have f0 := hfs 0 ⟨"ID", 3, 0, false, "", "", 0⟩ rfl
    dsimp only at f0
    rw [cells3] at f0
    change DataW.trod enc Try.prog w base (fun _ => true) held n 3 [v0] = xs[0]? at f0
    obtain ⟨y0, hy0⟩ : ∃ y, xs[0]? = some y := ⟨xs[0]'(by omega), List.getElem?_eq_getElem (by omega)⟩
    rw [hy0] at f0
    obtain ⟨k0, hk0, _, wk0⟩ := DataW.trod_int Try.underlying3 f0
    obtain rfl : v0 = .int .i64 k0 := by simpa using hk0
    have f1 := hfs 1 ⟨"Kind", 5, 1, false, "", "", 8⟩ rfl
    dsimp only at f1
    rw [cells5] at f1
    change DataW.trod enc Try.prog w base (fun _ => true) held n 5 [v1] = xs[1]? at f1
    obtain ⟨y1, hy1⟩ : ∃ y, xs[1]? = some y := ⟨xs[1]'(by omega), List.getElem?_eq_getElem (by omega)⟩
    rw [hy1] at f1
    obtain ⟨k1, hk1, _, wk1⟩ := DataW.trod_int Try.underlying5 f1
    obtain rfl : v1 = .int .u8 k1 := by simpa using hk1
    have f2 := hfs 2 ⟨"Parent", 3, 2, false, "", "", 16⟩ rfl
    dsimp only at f2
    rw [cells3] at f2
    change DataW.trod enc Try.prog w base (fun _ => true) held n 3 [v2] = xs[2]? at f2
    obtain ⟨y2, hy2⟩ : ∃ y, xs[2]? = some y := ⟨xs[2]'(by omega), List.getElem?_eq_getElem (by omega)⟩
    rw [hy2] at f2
    obtain ⟨k2, hk2, _, wk2⟩ := DataW.trod_int Try.underlying3 f2
    obtain rfl : v2 = .int .i64 k2 := by simpa using hk2
    have f3 := hfs 3 ⟨"Order", 3, 3, false, "", "", 24⟩ rfl
    dsimp only at f3
    rw [cells3] at f3
    change DataW.trod enc Try.prog w base (fun _ => true) held n 3 [v3] = xs[3]? at f3
    obtain ⟨y3, hy3⟩ : ∃ y, xs[3]? = some y := ⟨xs[3]'(by omega), List.getElem?_eq_getElem (by omega)⟩
    rw [hy3] at f3
    obtain ⟨k3, hk3, _, wk3⟩ := DataW.trod_int Try.underlying3 f3
    obtain rfl : v3 = .int .i64 k3 := by simpa using hk3
    have f4 := hfs 4 ⟨"Name", 9, 4, false, "", "", 32⟩ rfl
    dsimp only at f4
    rw [cells9] at f4
    change DataW.trod enc Try.prog w base (fun _ => true) held n 9 [v4] = xs[4]? at f4
    obtain ⟨y4, hy4⟩ : ∃ y, xs[4]? = some y := ⟨xs[4]'(by omega), List.getElem?_eq_getElem (by omega)⟩
    rw [hy4] at f4
    obtain ⟨k4, rfl, _⟩ := trod_str f4
    have f5 := hfs 5 ⟨"From", 3, 5, false, "", "", 48⟩ rfl
    dsimp only at f5
    rw [cells3] at f5
    change DataW.trod enc Try.prog w base (fun _ => true) held n 3 [v5] = xs[5]? at f5
    obtain ⟨y5, hy5⟩ : ∃ y, xs[5]? = some y := ⟨xs[5]'(by omega), List.getElem?_eq_getElem (by omega)⟩
    rw [hy5] at f5
    obtain ⟨k5, hk5, _, wk5⟩ := DataW.trod_int Try.underlying3 f5
    obtain rfl : v5 = .int .i64 k5 := by simpa using hk5
    have f6 := hfs 6 ⟨"To", 3, 6, false, "", "", 56⟩ rfl
    dsimp only at f6
    rw [cells3] at f6
    change DataW.trod enc Try.prog w base (fun _ => true) held n 3 [v6] = xs[6]? at f6
    obtain ⟨y6, hy6⟩ : ∃ y, xs[6]? = some y := ⟨xs[6]'(by omega), List.getElem?_eq_getElem (by omega)⟩
    rw [hy6] at f6
    obtain ⟨k6, hk6, _, wk6⟩ := DataW.trod_int Try.underlying3 f6
    obtain rfl : v6 = .int .i64 k6 := by simpa using hk6
    have f7 := hfs 7 ⟨"Event", 9, 7, false, "", "", 64⟩ rfl
    dsimp only at f7
    rw [cells9] at f7
    change DataW.trod enc Try.prog w base (fun _ => true) held n 9 [v7] = xs[7]? at f7
    obtain ⟨y7, hy7⟩ : ∃ y, xs[7]? = some y := ⟨xs[7]'(by omega), List.getElem?_eq_getElem (by omega)⟩
    rw [hy7] at f7
    obtain ⟨k7, rfl, _⟩ := trod_str f7
    have f8 := hfs 8 ⟨"Guard", 9, 8, false, "", "", 80⟩ rfl
    dsimp only at f8
    rw [cells9] at f8
    change DataW.trod enc Try.prog w base (fun _ => true) held n 9 [v8] = xs[8]? at f8
    obtain ⟨y8, hy8⟩ : ∃ y, xs[8]? = some y := ⟨xs[8]'(by omega), List.getElem?_eq_getElem (by omega)⟩
    rw [hy8] at f8
    obtain ⟨k8, rfl, _⟩ := trod_str f8
    have f9 := hfs 9 ⟨"Action", 9, 9, false, "", "", 96⟩ rfl
    dsimp only at f9
    rw [cells9] at f9
    change DataW.trod enc Try.prog w base (fun _ => true) held n 9 [v9] = xs[9]? at f9
    obtain ⟨y9, hy9⟩ : ∃ y, xs[9]? = some y := ⟨xs[9]'(by omega), List.getElem?_eq_getElem (by omega)⟩
    rw [hy9] at f9
    obtain ⟨k9, rfl, _⟩ := trod_str f9
    have g1 := wf_u8 wk1
    have g := fun {a : Int} (h : (Lit.int .i64 a).wf = true) => (show I64 a from by have := wf_i64 h; unfold I64; omega)
    exact ⟨⟨k0, k1, k2, k3, k4, k5, k6, k7, k8, k9⟩, rfl, ⟨g wk0, ⟨g1.1, by show k1 ≤ 255; omega⟩, g wk2, g wk3, g wk5, g wk6⟩⟩
theorem spot_none {w : World} {r : Reach} {b0 : Nat} {x : Addr} {l c t e : Nat} (hu : Try.prog.underlying t = some (.slice e)) (hv : Value.okWide Try.prog w r b0 t (.slice (some x) l c)) : x.spot = none := by
  simp only [Value.okWide, hu, Cell.okWide, Cell.ok, World.has] at hv
  exact hv.2.2.2.1
theorem list_of {n : Nat} {P : Nat → El → Prop} (h : ∀ i, i < n → ∃ x, P i x) : ∃ l : List El, l.length = n ∧ ∀ i, i < n → P i (l.getD i el0) := by
  refine ⟨List.ofFn fun i : Fin n => Classical.choose (h i i.2), by simp, fun i hi => ?_⟩
  have : (List.ofFn fun i : Fin n => Classical.choose (h i i.2)).getD i el0 = Classical.choose (h i hi) := by simp [List.getD, hi]
  rw [this]
  exact Classical.choose_spec (h i hi)
/-- An argument that is a slice of elements. -/
theorem open_els {H : Type} {enc : TypeId × Value → H} {w : World} {base b0 t : Nat} {r : Reach} {held : Bool} {v : Value} {d : DataW H} {p : List MemPlace} (hu : Try.prog.underlying t = some (.slice 38))
    (hv : Value.okWide Try.prog w r b0 t v) (h : DataW.Trod enc Try.prog w base (fun _ => true) held t v d p) : ∃ l : List El, RowV w v l ∧ l.length ≤ maxLen ∧ ∀ x ∈ l, x.Ok := by
  obtain ⟨a0, len0, cap0, rfl⟩ := okWide_slice hu hv
  obtain ⟨fuel, hf⟩ := h
  rcases DataW.trod_slice hu hf with ⟨hcs, _⟩ | ⟨x, l, c, elems, rest, m, _, hcs, _, hb, hl, hm, hlen, hel, _, _⟩
  · simp [Value.cells] at hcs
    obtain ⟨rfl, rfl, rfl⟩ := hcs
    exact ⟨[], .inl ⟨rfl, rfl⟩, by simp, fun x hx => by simp at hx⟩
  · simp [Value.cells] at hcs
    obtain ⟨rfl, rfl, rfl⟩ := hcs
    have hs := spot_none hu hv
    obtain ⟨g, o, sp⟩ := x
    dsimp only at hs
    subst hs
    obtain ⟨L, hL, hP⟩ := list_of (n := len0) (P := fun i x => w.rangeAt g (o + i * 10) x.vals ∧ x.Ok) (fun i hi => by
      have h1 := hel i hi
      rw [cells24] at h1
      obtain ⟨y, hy⟩ : ∃ y, elems[i]? = some y := ⟨elems[i]'(by omega), List.getElem?_eq_getElem (by omega)⟩
      rw [hy] at h1
      rw [Addr.add_mid] at h1
      obtain ⟨cs, hcs, htr⟩ := Option.bind_eq_some_iff.1 h1
      obtain ⟨_, hc3, hcell⟩ := World.cells?_some hcs
      obtain ⟨q, rfl, hq⟩ := el_of_cells hc3 htr
      refine ⟨q, fun j u hj => ?_, hq⟩
      have hjl : j < 10 := by have := (List.getElem?_eq_some_iff.1 hj).1; simpa [El.vlen] using this
      have := hcell j hjl
      rw [Addr.add_mid] at this
      rw [this]
      exact hj)
    subst hL
    refine ⟨L, .inr ⟨g, o, cap0, rfl, by omega, fun h0 => ?_, fun k hk => (hP k hk).1⟩, by omega, fun x hx => ?_⟩
    · have := (hP 0 h0).1 0 _ rfl
      exact World.block_lt_of_cell? w _ this
    · obtain ⟨i, hi, rfl⟩ := List.getElem_of_mem hx
      have := (hP i hi).2
      simpa [List.getD, hi] using this
end Go.Proofs.Ytkciaafkhpjnaaa
