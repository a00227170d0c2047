/- Own texts, packed: Ac. -/
import Derived.Test.YtnenkclihgeacaaDoorP20
import Derived.Test.YtnenkclihgeacaaDoorP19
/- Own contracts: the law's acts, opened. No statement is proved here. -/
namespace Go.Proofs.YtnenkclihgeacaaDoor
set_option maxRecDepth 100000
open Go.ChangeShapes Go.WideShapes Go.ChangeAt Go.RowKit
set_option linter.unusedVariables false
set_option linter.unusedSimpArgs false

/-- Bytes of an argument. -/
structure ArgB (w : World) (v : Value) (xs : List Int) : Prop where
  src : Src w v xs
  ok : BytesOk xs
  small : xs.length ≤ maxLen
  old : ∀ q, v.ownBlock = some q → 0 < xs.length → q < w.heap.size
theorem ArgB.turn {w w' : World} {v : Value} {xs : List Int} (h : ArgB w v xs) (T : Turn (fun _ => False) w w') : ArgB w' v xs := ⟨h.src.turn T (fun _ _ => id), h.ok, h.small, fun q h1 h2 => Nat.lt_of_lt_of_le (h.old q h1 h2) T.size⟩
theorem spot_none {w : World} {r : Reach} {b0 : Nat} {x : Addr} {l c : Nat} (hv : Value.okWide Tryd.prog w r b0 24 (.slice (some x) l c)) : x.spot = none := by
  simp only [Value.okWide, Tryd.underlying24, Cell.okWide, Cell.ok, World.has] at hv
  exact hv.2.2.2.1
theorem open_src {H : Type} {enc : TypeId × Value → H} {w : World} {base m : Nat} {held : Bool} {pv : Value} {x : DataW H × List MemPlace}
    (hf : DataW.trod enc Tryd.prog w base (fun _ => true) held m 31 [pv] = some x) : ∃ xs : List Int, ArgB w pv xs := by
  rcases open_ints Tryd.underlying31 Tryd.underlying5 (by kernel_rfl) hf with ⟨hcs, _⟩ | ⟨x, l, c, zs, hcs, _, hl, hm, hz, _, hcell, hwz⟩
  · obtain rfl : pv = .slice none 0 0 := by simpa using hcs
    exact ⟨[], .inl (.inl ⟨rfl, rfl⟩), fun x hx => by simp at hx, by simp, fun k _ h => by simp at h⟩
  · obtain rfl : pv = .slice (some x) l c := by simpa using hcs
    have hs := src_of_row (w := w) (x := x) hl (by simpa using hz) hcell
    refine ⟨zs.take l, hs, fun y hy => wf_u8 (hwz y (List.mem_of_mem_take hy)), by simp; omega, fun k hk hpos => ?_⟩
    obtain ⟨a, c, he, hc⟩ := src_any hs
    obtain ⟨_, g, o, rfl, hcc⟩ := hc hpos
    injection he with e1 e2 e3
    injection e1 with e1
    subst e1
    cases hk
    exact World.block_lt_of_cell? w _ (hcc 0 hpos)
/-- An act of the argument. -/
structure ActAt (w : World) (g o i : Nat) (a : ActM) : Prop where
  at_ : w.rangeAt g (o + i * 37) a.vals
  ok : a.Ok
  m : ArgB w a.mv a.ms
  nsz : a.name.size ≤ maxLen
  lt : g < w.heap.size
theorem ActAt.turn {w w' : World} {g o i : Nat} {a : ActM} (h : ActAt w g o i a) (T : Turn (fun _ => False) w w') : ActAt w' g o i a := ⟨rangeAt_turn h.at_ T id, h.ok, h.m.turn T, h.nsz, Nat.lt_of_lt_of_le h.lt T.size⟩
def ActsIn (w : World) (v : Value) (n : Nat) : Prop := ∃ a c, v = .slice a n c ∧ n ≤ maxLen ∧ n ≤ c ∧ ∀ i, i < n → ∃ g o x, a = some ⟨g, o, none⟩ ∧ ActAt w g o i x
theorem ActsIn.turn {w w' : World} {v : Value} {n : Nat} (h : ActsIn w v n) (T : Turn (fun _ => False) w w') : ActsIn w' v n := by
  obtain ⟨a, c, h1, h2, h3, h4⟩ := h
  refine ⟨a, c, h1, h2, h3, fun i hi => ?_⟩
  obtain ⟨g, o, x, e, hx⟩ := h4 i hi
  exact ⟨g, o, x, e, hx.turn T⟩
theorem cells33 : Tryd.prog.cellsOf 33 = 37 := by kernel_rfl
theorem cells31 : Tryd.prog.cellsOf 31 = 1 := by kernel_rfl
theorem cells9 : Tryd.prog.cellsOf 9 = 1 := by kernel_rfl
theorem cells4 : Tryd.prog.cellsOf 4 = 1 := by kernel_rfl
/-- 32 cells that are an array of bytes. -/
theorem open_key32 {H : Type} {enc : TypeId × Value → H} {w : World} {base m : Nat} {spare : Nat → Bool} {held : Bool} {cs : List Value} {x : DataW H × List MemPlace} (hl : cs.length = 32) (hf : DataW.trod enc Tryd.prog w base spare held m 30 cs = some x) : ∃ ks : List Int, ks.length = 32 ∧ BytesOk ks ∧ cs = ks.map (Value.int .u8) := by
  obtain ⟨xs, m, rfl, hx, hl', hn, hall⟩ := DataW.trod_array Tryd.underlying30 hf
  have each : ∀ i, i < 32 → ∃ n, cs[i]? = some (.int .u8 n) ∧ 0 ≤ n ∧ n < 256 := fun i hi => by
    have h1 := hall i hi
    obtain ⟨b, hb⟩ : ∃ b, xs[i]? = some b := ⟨xs[i]'(by omega), List.getElem?_eq_getElem (by omega)⟩
    rw [hb, cells5, Nat.mul_one] at h1
    obtain ⟨n, hc, _, hw⟩ := DataW.trod_int Tryd.underlying5 h1
    have h2 := congrArg (·[0]?) hc
    have hb2 : 0 ≤ n ∧ n ≤ 255 := by simpa [Lit.wf, IntKind.min, IntKind.max, IntKind.signed, IntKind.bits] using hw
    exact ⟨n, by simpa [List.getElem?_take, List.getElem?_drop] using h2, by omega, by omega⟩
  refine ⟨cs.map intOf, by simp [hl], fun x hx => ?_, ?_⟩
  · obtain ⟨c, hc, rfl⟩ := List.mem_map.1 hx
    obtain ⟨i, hi, rfl⟩ := List.getElem_of_mem hc
    obtain ⟨n, hn1, hn2⟩ := each i (by omega)
    rw [List.getElem?_eq_getElem hi] at hn1
    rw [Option.some.inj hn1]; exact hn2
  · apply List.ext_getElem?
    intro i
    by_cases hi : i < 32
    · obtain ⟨n, hn1, _⟩ := each i hi
      simp only [List.map_map, List.getElem?_map, hn1]
      simp [intOf]
    · have h0 : cs[i]? = none := List.getElem?_eq_none (by omega)
      simp only [List.map_map, List.getElem?_map, h0]
      simp
theorem open_acts {H : Type} {enc : TypeId × Value → H} {w : World} {base b0 : Nat} {r : Reach} {held : Bool} {v : Value} {d : DataW H} {p : List MemPlace}
    (hv : Value.okWide Tryd.prog w r b0 24 v) (h : DataW.Trod enc Tryd.prog w base (fun _ => true) held 24 v d p) : ∃ n, ActsIn w v n := by
  obtain ⟨a0, len0, cap0, rfl⟩ := okWide_slice Tryd.underlying24 hv
  obtain ⟨fuel, hf⟩ := h
  rcases DataW.trod_slice Tryd.underlying24 hf with ⟨hcs, _⟩ | ⟨x, l, c, elems, rest, m, _, hcs, _, hb, hl, hm, hlen, hel, _, _⟩
  · simp [Value.cells] at hcs
    obtain ⟨rfl, rfl, rfl⟩ := hcs
    exact ⟨0, _, _, rfl, by simp, by simp, fun i hi => by omega⟩
  · simp [Value.cells] at hcs
    obtain ⟨rfl, rfl, rfl⟩ := hcs
    have hs := spot_none hv
    obtain ⟨g, o, sp⟩ := x
    dsimp only at hs
    subst hs
    refine ⟨len0, _, _, rfl, by omega, by omega, fun i hi => ?_⟩
    have h1 := hel i hi
    rw [cells33] at h1
    obtain ⟨y, hy⟩ : ∃ y, elems[i]? = some y := ⟨elems[i]'(by omega), List.getElem?_eq_getElem (by omega)⟩
    rw [hy] at h1
    have hadd : ∀ q, (⟨g, o, none⟩ : Addr).add q = ⟨g, o + q, none⟩ := fun q => by unfold Addr.add; split <;> simp_all
    have hadd2 : ∀ q, (⟨g, o + i * 37, none⟩ : Addr).add q = ⟨g, o + i * 37 + q, none⟩ := fun q => by unfold Addr.add; split <;> simp_all
    rw [hadd] at h1
    obtain ⟨cs, hcs, htr⟩ := Option.bind_eq_some_iff.1 h1
    obtain ⟨_, hc3, hcell⟩ := World.cells?_some hcs
    obtain ⟨xs, n, _, _, _, hxl, hfs⟩ := DataW.trod_struct Tryd.underlying33 htr
    have hx6 : xs.length = 6 := hxl
    have f0 := hfs 0 ⟨"K", 5, 0, false, "", "", 0⟩ rfl
    have f1 := hfs 1 ⟨"N", 5, 1, false, "", "", 1⟩ rfl
    have f2 := hfs 2 ⟨"Name", 9, 2, false, "", "", 8⟩ rfl
    have f3 := hfs 3 ⟨"Key", 30, 3, false, "", "", 24⟩ rfl
    have f4 := hfs 4 ⟨"Fast", 4, 35, false, "", "", 56⟩ rfl
    have f5 := hfs 5 ⟨"Mask", 31, 36, false, "", "", 64⟩ rfl
    dsimp only at f0 f1 f2 f3 f4 f5
    rw [cells5] at f0 f1
    rw [cells9] at f2
    rw [cells30] at f3
    rw [cells4] at f4
    rw [cells31] at f5
    have some_ : ∀ j, j < 6 → ∃ y, xs[j]? = some y := fun j hj => ⟨xs[j]'(by omega), List.getElem?_eq_getElem (by omega)⟩
    obtain ⟨y0, hy0⟩ := some_ 0 (by omega)
    obtain ⟨y1, hy1⟩ := some_ 1 (by omega)
    obtain ⟨y2, hy2⟩ := some_ 2 (by omega)
    obtain ⟨y3, hy3⟩ := some_ 3 (by omega)
    obtain ⟨y4, hy4⟩ := some_ 4 (by omega)
    obtain ⟨y5, hy5⟩ := some_ 5 (by omega)
    rw [hy0] at f0
    rw [hy1] at f1
    rw [hy2] at f2
    rw [hy3] at f3
    rw [hy4] at f4
    rw [hy5] at f5
    obtain ⟨k, hk, _, wk⟩ := DataW.trod_int Tryd.underlying5 f0
    obtain ⟨nn, hnn, _, wn⟩ := DataW.trod_int Tryd.underlying5 f1
    obtain ⟨s, hss, _, ws⟩ := DataW.trod_string Tryd.underlying9 f2
    obtain ⟨ks, hkl, hkb, hks⟩ := open_key32 (by simp [hc3]) f3
    obtain ⟨fa, hfa, _⟩ := DataW.trod_bool Tryd.underlying4 f4
    obtain ⟨mv, hmv⟩ : ∃ mv, List.take 1 (List.drop 36 cs) = [mv] := by
      have h36 : (List.take 1 (List.drop 36 cs)).length = 1 := by simp [hc3]
      exact List.length_eq_one_iff.1 h36
    rw [hmv] at f5
    obtain ⟨ms, hms⟩ := open_src f5
    obtain ⟨k', rfl⟩ := Int.eq_ofNat_of_zero_le (wf_u8 wk).1
    obtain ⟨n', rfl⟩ := Int.eq_ofNat_of_zero_le (wf_u8 wn).1
    have hcs37 : cs = (ActM.vals ⟨k', n', s, ks, fa, mv, ms⟩) := by
      have e : cs = List.take 1 (List.drop 0 cs) ++ (List.take 1 (List.drop 1 cs) ++ (List.take 1 (List.drop 2 cs) ++ (List.take 32 (List.drop 3 cs) ++ (List.take 1 (List.drop 35 cs) ++ List.take 1 (List.drop 36 cs))))) := by
        have t36 : List.take 1 (List.drop 36 cs) = List.drop 36 cs := List.take_of_length_le (by simp [hc3])
        have st : ∀ p q : Nat, List.take q (List.drop p cs) ++ List.drop (p + q) cs = List.drop p cs := fun p q => by rw [← List.drop_drop, List.take_append_drop]
        rw [t36, st 35 1, st 3 32, st 2 1, st 1 1, st 0 1]
        rfl
      rw [e, hk, hnn, hss, hks, hfa, hmv]
      simp [ActM.vals]
    have hrng : w.rangeAt g (o + i * 37) (ActM.vals ⟨k', n', s, ks, fa, mv, ms⟩) := fun j u hj => by
      rw [← hcs37] at hj
      have hjl := (List.getElem?_eq_some_iff.1 hj).1
      have := hcell j (by omega)
      rw [hadd2] at this
      rw [this]
      exact hj
    refine ⟨g, o, _, rfl, ⟨hrng, ⟨by have := (wf_u8 wk).2; show k' < 256; omega, by have := (wf_u8 wn).2; show n' < 256; omega, hkl, hkb⟩, hms, ws, ?_⟩⟩
    exact World.block_lt_of_cell? w _ (hrng 0 _ rfl)
end Go.Proofs.YtnenkclihgeacaaDoor
