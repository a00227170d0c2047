/- Own contracts: an argument that is a value of a field. No statement is proved here. -/
import Derived.Test.YtbokdgcdkmnldaaOp
import Derived.Test.YtbokdgcdkmnldaaGt
namespace Go.Proofs.Ytbokdgcdkmnldaa
set_option maxRecDepth 100000
open Go.RowKit
set_option linter.unusedVariables false
set_option linter.unusedSimpArgs false

open Go.ChangeShapes Go.WideShapes Go.ChangeAt
theorem cells37 : Try.prog.cellsOf 26 = 2 := by kernel_rfl
theorem vl_of_cells {H : Type} {enc : TypeId × Value → H} {w : World} {base m : Nat} {held : Bool} {cs : List Value} {y : DataW H × List MemPlace} (hc : cs.length = 2)
    (htr : DataW.trod enc Try.prog w base (fun _ => true) held m 26 cs = some y) : ∃ (n : Int) (s : ByteArray), cs = vl n s ∧ I64 n := by
  obtain ⟨xs, n, _, _, _, hxl, hfs⟩ := DataW.trod_struct Try.underlying26 htr
  match cs, hc with
  | [v0, v1], _ =>
    have hxl : xs.length = 2 := hxl
    have f0 := hfs 0 ⟨"N", 3, 0, false, "", "", 0⟩ rfl
    dsimp only at f0
    rw [cells3] at f0
    change DataW.trod enc Try.prog w base (fun _ => true) held n 3 [v0] = xs[0]? at f0
    obtain ⟨y0, hy0⟩ : ∃ y, xs[0]? = some y := ⟨xs[0]'(by omega), List.getElem?_eq_getElem (by omega)⟩
    rw [hy0] at f0
    obtain ⟨k0, hk0, _, wk0⟩ := DataW.trod_int Try.underlying3 f0
    obtain rfl : v0 = .int .i64 k0 := by simpa using hk0
    have f1 := hfs 1 ⟨"S", 9, 1, false, "", "", 8⟩ rfl
    dsimp only at f1
    rw [cells9] at f1
    change DataW.trod enc Try.prog w base (fun _ => true) held n 9 [v1] = xs[1]? at f1
    obtain ⟨y1, hy1⟩ : ∃ y, xs[1]? = some y := ⟨xs[1]'(by omega), List.getElem?_eq_getElem (by omega)⟩
    rw [hy1] at f1
    obtain ⟨k1, rfl, _⟩ := trod_str f1
    have g := wf_i64 wk0
    exact ⟨k0, k1, rfl, by unfold I64; omega⟩
theorem open_val {H : Type} {enc : TypeId × Value → H} {w : World} {base b0 : Nat} {r : Reach} {held : Bool} {v : Value} {d : DataW H} {p : List MemPlace}
    (hv : Value.okWide Try.prog w r b0 26 v) (h : DataW.Trod enc Try.prog w base (fun _ => true) held 26 v d p) : ∃ (n : Int) (s : ByteArray), v = .agg (vl n s).toArray ∧ I64 n := by
  obtain ⟨cs, rfl, hsz⟩ := okWide_struct Try.underlying26 hv
  rw [cells37] at hsz
  obtain ⟨fuel, hf⟩ := h
  obtain ⟨l⟩ := cs
  obtain ⟨n, s, ho, hk⟩ := vl_of_cells (cs := l) (by simpa using hsz) hf
  exact ⟨n, s, by rw [ho], hk⟩
end Go.Proofs.Ytbokdgcdkmnldaa
