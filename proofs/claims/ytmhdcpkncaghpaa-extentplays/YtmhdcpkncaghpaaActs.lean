/- Own: an argument that is a slice of acts, opened. No statement is proved here. -/
import Derived.Test.YtmhdcpkncaghpaaOpen
namespace Go.Proofs.Ytmhdcpkncaghpaa
open Go.ChangeShapes Go.WideShapes Go.ChangeAt Go.RowKit
set_option linter.unusedVariables false

structure ActAt (w : World) (g o i : Nat) (K At M : Int) : Prop where
  kind : w.cell? ⟨g, o + i * 3, none⟩ = some (.int .u8 K)
  place : w.cell? ⟨g, o + i * 3 + 1, none⟩ = some (.int .i64 At)
  num : w.cell? ⟨g, o + i * 3 + 2, none⟩ = some (.int .i64 M)
  kOk : 0 ≤ K ∧ K < 256
  atOk : -9223372036854775808 ≤ At ∧ At < 9223372036854775808
  mOk : -9223372036854775808 ≤ M ∧ M < 9223372036854775808
theorem ActAt.turn {w w' : World} {g o i : Nat} {K At M : Int} (h : ActAt w g o i K At M) (T : Turn (fun _ => False) w w') : ActAt w' g o i K At M := by
  have hg : g < w.heap.size := World.block_lt_of_cell? w _ h.kind
  exact ⟨(T.cell (p := ⟨g, _, none⟩) hg id).trans h.kind, (T.cell (p := ⟨g, _, none⟩) hg id).trans h.place, (T.cell (p := ⟨g, _, none⟩) hg id).trans h.num, h.kOk, h.atOk, h.mOk⟩
theorem spot_none {w : World} {r : Reach} {b0 : Nat} {x : Addr} {l c : Nat} (hv : Value.okWide Try.prog w r b0 22 (.slice (some x) l c)) : x.spot = none := by
  simp only [Value.okWide, Try.underlying22, Cell.okWide, Cell.ok, World.has] at hv
  exact hv.2.2.2.1
theorem cells28 : Try.prog.cellsOf 28 = 3 := by kernel_rfl
theorem cells5 : Try.prog.cellsOf 5 = 1 := by kernel_rfl
theorem cells3 : Try.prog.cellsOf 3 = 1 := by kernel_rfl
def ActsIn (w : World) (v : Value) (n : Nat) : Prop := ∃ a c, v = .slice a n c ∧ n ≤ maxLen ∧ ∀ i, i < n → ∃ g o K At M, a = some ⟨g, o, none⟩ ∧ ActAt w g o i K At M
theorem ActsIn.turn {w w' : World} {v : Value} {n : Nat} (h : ActsIn w v n) (T : Turn (fun _ => False) w w') : ActsIn w' v n := by
  obtain ⟨a, c, e, hm, h⟩ := h
  refine ⟨a, c, e, hm, fun i hi => ?_⟩
  obtain ⟨g, o, K, At, M, e1, e2⟩ := h i hi
  exact ⟨g, o, K, At, M, e1, e2.turn T⟩
/-- An argument that is a slice of acts. -/
theorem open_acts {H : Type} {enc : TypeId × Value → H} {w : World} {base b0 : Nat} {r : Reach} {held : Bool} {v : Value} {d : DataW H} {p : List MemPlace}
    (hv : Value.okWide Try.prog w r b0 22 v) (h : DataW.Trod enc Try.prog w base (fun _ => true) held 22 v d p) : ∃ n, ActsIn w v n := by
  obtain ⟨a0, len0, cap0, rfl⟩ := okWide_slice Try.underlying22 hv
  obtain ⟨fuel, hf⟩ := h
  rcases DataW.trod_slice Try.underlying22 hf with ⟨hcs, _⟩ | ⟨x, l, c, elems, rest, m, _, hcs, _, hb, hl, hm, hlen, hel, _, _⟩
  · simp [Value.cells] at hcs
    obtain ⟨rfl, rfl, rfl⟩ := hcs
    exact ⟨0, _, _, rfl, by simp, fun i hi => by omega⟩
  · simp [Value.cells] at hcs
    obtain ⟨rfl, rfl, rfl⟩ := hcs
    have hs := spot_none hv
    obtain ⟨g, o, sp⟩ := x
    dsimp only at hs
    subst hs
    refine ⟨len0, _, _, rfl, by omega, fun i hi => ?_⟩
    have h1 := hel i hi
    rw [cells28] at h1
    obtain ⟨y, hy⟩ : ∃ y, elems[i]? = some y := ⟨elems[i]'(by omega), List.getElem?_eq_getElem (by omega)⟩
    rw [hy] at h1
    have hadd : ∀ q, (⟨g, o, none⟩ : Addr).add q = ⟨g, o + q, none⟩ := fun q => by unfold Addr.add; split <;> simp_all
    have hadd2 : ∀ q, (⟨g, o + i * 3, none⟩ : Addr).add q = ⟨g, o + i * 3 + q, none⟩ := fun q => by unfold Addr.add; split <;> simp_all
    rw [hadd] at h1
    obtain ⟨cs, hcs, htr⟩ := Option.bind_eq_some_iff.1 h1
    obtain ⟨_, hc3, hcell⟩ := World.cells?_some hcs
    obtain ⟨xs, n, _, _, _, hxl, hfs⟩ := DataW.trod_struct Try.underlying28 htr
    match cs, hc3 with
    | [v0, v1, v2], _ =>
      have e0 := hcell 0 (by omega)
      have e1 := hcell 1 (by omega)
      have e2 := hcell 2 (by omega)
      rw [hadd2] at e0 e1 e2
      have hx3 : xs.length = 3 := hxl
      have f0 := hfs 0 ⟨"K", 5, 0, false, "", "", 0⟩ rfl
      have f1 := hfs 1 ⟨"At", 3, 1, false, "", "", 8⟩ rfl
      have f2 := hfs 2 ⟨"N", 3, 2, false, "", "", 16⟩ rfl
      dsimp only at f0 f1 f2
      rw [cells5] at f0
      rw [cells3] at f1 f2
      change DataW.trod enc Try.prog w base (fun _ => true) held n 5 [v0] = xs[0]? at f0
      change DataW.trod enc Try.prog w base (fun _ => true) held n 3 [v1] = xs[1]? at f1
      change DataW.trod enc Try.prog w base (fun _ => true) held n 3 [v2] = xs[2]? at f2
      obtain ⟨y0, hy0⟩ : ∃ y, xs[0]? = some y := ⟨xs[0]'(by omega), List.getElem?_eq_getElem (by omega)⟩
      obtain ⟨y1, hy1⟩ : ∃ y, xs[1]? = some y := ⟨xs[1]'(by omega), List.getElem?_eq_getElem (by omega)⟩
      obtain ⟨y2, hy2⟩ : ∃ y, xs[2]? = some y := ⟨xs[2]'(by omega), List.getElem?_eq_getElem (by omega)⟩
      rw [hy0] at f0
      rw [hy1] at f1
      rw [hy2] at f2
      obtain ⟨k, hk, _, wk⟩ := DataW.trod_int Try.underlying5 f0
      obtain ⟨t, ht, _, wt⟩ := DataW.trod_int Try.underlying3 f1
      obtain ⟨u, hu, _, wu⟩ := DataW.trod_int Try.underlying3 f2
      obtain rfl : v0 = .int .u8 k := by simpa using hk
      obtain rfl : v1 = .int .i64 t := by simpa using ht
      obtain rfl : v2 = .int .i64 u := by simpa using hu
      exact ⟨g, o, k, t, u, rfl, ⟨by simpa using e0, by simpa using e1, by simpa using e2, wf_u8 wk, wf_i64 wt, wf_i64 wu⟩⟩
end Go.Proofs.Ytmhdcpkncaghpaa
