/- Own texts, packed: Q29, Q37. -/
import Derived.Test.YtboofamenpcnhaaGreatDoorV19
import Derived.Lib.AppendZeros
import Derived.Test.YtboofamenpcnhaaGreatDoorV00
namespace Go.Proofs.YtboofamenpcnhaaGreatDoor
set_option maxRecDepth 100000
open Go.RowKit
set_option linter.unusedVariables false
set_option linter.unusedSimpArgs false
def GrowPost (w : World) (e : Ending) (w' : World) : Prop := ∃ v, e = .returned v ∧ w'.ownsRow w.heap.size 5 1 v 0 [] ∧ Turn (fun _ => False) w w'
set_option maxHeartbeats 1600000 in
set_option maxRecDepth 100000 in
theorem grow_any (n : Nat) (h0 : 0 < n) (hn : n ≤ 1000) (w : World) : Calls Tryz.prog 102 #[.slice none 0 0, .int .i64 (n : Int)] w (GrowPost w) := by
  obtain ⟨i0, hi, hz0, hz1, hz2⟩ := info_parts Tryz.info5
  have hrun := Lib.run_append_nil_zeros (P := Tryz.prog) w 29 3 29 5 i0 (.int .u8 0) .i64 .i64 Tryz.underlying29 Tryz.underlying3 hi hz0 n h0 (by rw [hz1]; decide) (by omega) (by rw [hz2]; omega)
  have HR := Lib.hid hrun
  have hd0 : decide ((n : Int) < 0) = false := by simp
  have hd1 : decide ((0 : Int) < (n : Int)) = true := by simp; omega
  have hge := grownCap_ge w n 0 5
  have hcm := grownCap_le_maxLen w n 0 5 (by simp only [maxLen]; omega)
  clear hrun
  go_enter Tryz.func102, Tryz.ntmps102
  go_wp2_with (at_builtin; refine Lib.wpList_append_run _ rfl _ _ _ _ rfl _ _ rfl rfl _ _ HR.out ?_)
  go_ret
  refine ⟨_, rfl, ⟨rfl, .inr ⟨w.heap.size, _, _, rfl, Nat.le_refl _, heap_alloc_new w.drew _, Nat.zero_le _, hcm, ?_, by simp⟩⟩, ((Turn.refl _ w).drew).alloc _⟩
  simp [size_zeroCells, Value.cells]
  omega
theorem news_of {w : World} {g o : Nat} {xs : List Int} (_ : True) (h : ∀ i, i < xs.length → w.cell? ⟨g, o + i, none⟩ = some (.int .u8 (xs.getD i 0))) : ∀ (j : Nat) u, (xs.map (Value.int .u8))[j]? = some u → w.cell? ((⟨g, o, none⟩ : Addr).add j) = some u := by
  intro j u hj
  have hjl : j < xs.length := by have := (List.getElem?_eq_some_iff.1 hj).1; simpa using this
  rw [Addr.add_mid, h j hjl]
  simp [hjl] at hj; subst hj; simp [List.getD, hjl]
/-- The bytes of two. -/
def catK (xs ys : List Int) (k : Nat) : List Int := if k = 0 then [] else if k = 1 then xs else xs ++ ys
set_option maxHeartbeats 1600000 in
set_option maxRecDepth 100000 in
theorem concat_any (w : World) (G c0 : Nat) (hc0 : 2 ≤ c0) (g1 o1 c1 g2 o2 c2 : Nat) (xs ys : List Int)
    (hG1 : w.cell? ⟨G, 0, none⟩ = some (.slice (some ⟨g1, o1, none⟩) xs.length c1)) (hG2 : w.cell? ⟨G, 1, none⟩ = some (.slice (some ⟨g2, o2, none⟩) ys.length c2))
    (h1 : ∀ i, i < xs.length → w.cell? ⟨g1, o1 + i, none⟩ = some (.int .u8 (xs.getD i 0))) (h2 : ∀ i, i < ys.length → w.cell? ⟨g2, o2 + i, none⟩ = some (.int .u8 (ys.getD i 0)))
    (hpos : 0 < xs.length + ys.length) (hle : xs.length + ys.length ≤ 1000) :
    Calls Tryz.prog 76 #[.slice (some ⟨G, 0, none⟩) 2 c0] w (Made w (xs ++ ys)) := by
  obtain ⟨i0, hi, hz0, hz1, hz2⟩ := info_parts Tryz.info5
  have H1 := Lib.hid h1
  have H2 := Lib.hid h2
  have hGlt := World.block_lt_of_cell? w _ hG1
  clear h1 h2
  obtain ⟨L1, hL1⟩ : ∃ L, xs.length = L := ⟨_, rfl⟩
  obtain ⟨L2, hL2⟩ : ∃ L, ys.length = L := ⟨_, rfl⟩
  rw [hL1] at hG1 hpos hle
  rw [hL2] at hG2 hpos hle
  have HL1 := Lib.hid hL1
  have HL2 := Lib.hid hL2
  clear hL1 hL2
  go_enter Tryz.func76, Tryz.ntmps76
  go_wp2_with fail
  go_loop [3, 11] (fun sv iv => ∃ (k : Nat), k ≤ 2 ∧ iv = .int .i64 (k : Int) ∧ sv = .int .i64 (((if k = 0 then 0 else if k = 1 then L1 else L1 + L2) : Nat) : Int)) (fun _ i => 2 - (intOf i).toNat)
  case atStart => exact ⟨0, Nat.zero_le _, rfl, rfl⟩
  case round =>
    obtain ⟨k, hk, rfl, rfl⟩ := hrel
    rcases (by omega : k = 0 ∨ k = 1 ∨ k = 2) with rfl | rfl | rfl
    · have hd : decide ((L1 : Int) < 0) = false := by simp
      go_wp2_with fail
      go_round
      case rel => exact ⟨1, by omega, by go_num, by simp⟩
      case measure => simp [intOf]
    · have hd : decide ((L1 : Int) + (L2 : Int) < 0) = false := by simp; omega
      go_wp2_with fail
      go_round
      case rel => exact ⟨2, by omega, by go_num, by simp⟩
      case measure => simp [intOf]
    · have hcast : (((if (2 : Nat) = 0 then 0 else if (2 : Nat) = 1 then L1 else L1 + L2) : Nat) : Int) = ((L1 + L2 : Nat) : Int) := by simp
      rw [hcast]
      go_wp2_with fail
      refine (grow_any (L1 + L2) hpos hle w).mono ?_
      rintro e w1 ⟨v1, rfl, ho1, t1⟩
      have hG1' := (t1.cell (p := ⟨G, 0, none⟩) hGlt id).trans hG1
      have hG2' := (t1.cell (p := ⟨G, 1, none⟩) hGlt id).trans hG2
      have HO1 := Lib.hid ho1
      go_wp2_with fail
      go_loopw [6, 27] (fun sv iv wr => ∃ (k : Nat), k ≤ 2 ∧ iv = .int .i64 (k : Int) ∧ wr.ownsRow w.heap.size 5 1 sv (catK xs ys k).length ((catK xs ys k).map (Value.int .u8)) ∧ Turn (fun _ => False) w wr) (fun _ i _ => 2 - (intOf i).toNat)
      case atStart => exact ⟨0, Nat.zero_le _, rfl, HO1.out, t1⟩
      case round =>
        obtain ⟨k, hk, rfl, ho, tr⟩ := hrel
        have HO := Lib.hid ho
        clear ho
        have hGa := (tr.cell (p := ⟨G, 0, none⟩) hGlt id).trans hG1
        have hGb := (tr.cell (p := ⟨G, 1, none⟩) hGlt id).trans hG2
        rcases (by omega : k = 0 ∨ k = 1 ∨ k = 2) with rfl | rfl | rfl
        · have hnews := news_of trivial (fun i hi => (tr.cell (p := ⟨g1, o1 + i, none⟩) (World.block_lt_of_cell? w _ (H1.out i hi)) id).trans (H1.out i hi))
          have HN := Lib.hid hnews
          clear hnews
          go_wp2_with (at_builtin; refine wpList_append_where _ rfl (.tmp 31) (.tmp 32) 29 rfl w.heap.size 5 i0 (.int .u8 0) 1 1 Tryz.underlying29 hi hz0 hz1 hz2 rfl (by decide) _ (catK xs ys 0).length ((catK xs ys 0).map (Value.int .u8)) rfl HO.out ⟨g1, o1, none⟩ L1 c1 (xs.map (Value.int .u8)) rfl (by simp [HL1.out]) HN.out (ints_oneCell _ _) ?d3 ?d4 tr.size ?_)
          case d3 => have := HL1.out; have := HL2.out; simp [catK]; unfold maxLen; omega
          case d4 => have := HL1.out; have := HL2.out; simp [catK]; omega
          intro v' w' ho' hg' _ _
          have t' := tr.grown hg' (fun q h hq => by have := (HO.out.lt q h).1; omega)
          have e' : (catK xs ys 0).length + L1 = (catK xs ys 1).length := by have := HL1.out; have := HL2.out; simp [catK]; try omega
          rw [e'] at ho'
          have e2 : (catK xs ys 0).map (Value.int .u8) ++ xs.map (Value.int .u8) = (catK xs ys 1).map (Value.int .u8) := by simp [catK]
          rw [e2] at ho'
          have HO2 := Lib.hid ho'
          clear ho' e' e2
          go_wp2_with fail
          go_round
          case rel => exact ⟨1, by omega, by go_num, HO2.out, t'⟩
          case measure => simp [intOf]
        · have hnews := news_of trivial (fun i hi => (tr.cell (p := ⟨g2, o2 + i, none⟩) (World.block_lt_of_cell? w _ (H2.out i hi)) id).trans (H2.out i hi))
          have HN := Lib.hid hnews
          clear hnews
          go_wp2_with (at_builtin; refine wpList_append_where _ rfl (.tmp 31) (.tmp 32) 29 rfl w.heap.size 5 i0 (.int .u8 0) 1 1 Tryz.underlying29 hi hz0 hz1 hz2 rfl (by decide) _ (catK xs ys 1).length ((catK xs ys 1).map (Value.int .u8)) rfl HO.out ⟨g2, o2, none⟩ L2 c2 (ys.map (Value.int .u8)) rfl (by simp [HL2.out]) HN.out (ints_oneCell _ _) ?d3 ?d4 tr.size ?_)
          case d3 => have := HL1.out; have := HL2.out; simp [catK]; unfold maxLen; omega
          case d4 => have := HL1.out; have := HL2.out; simp [catK]; omega
          intro v' w' ho' hg' _ _
          have t' := tr.grown hg' (fun q h hq => by have := (HO.out.lt q h).1; omega)
          have e' : (catK xs ys 1).length + L2 = (catK xs ys 2).length := by have := HL1.out; have := HL2.out; simp [catK]; try omega
          rw [e'] at ho'
          have e2 : (catK xs ys 1).map (Value.int .u8) ++ ys.map (Value.int .u8) = (catK xs ys 2).map (Value.int .u8) := by simp [catK]
          rw [e2] at ho'
          have HO2 := Lib.hid ho'
          clear ho' e' e2
          go_wp2_with fail
          go_round
          case rel => exact ⟨2, by omega, by go_num, HO2.out, t'⟩
          case measure => simp [intOf]
        · go_wp2_with fail
          go_ret
          refine ⟨_, rfl, Reads.of_owns HO.out, fun q hq => (HO.out.lt q hq).1, tr⟩
end Go.Proofs.YtboofamenpcnhaaGreatDoor
namespace Go.Proofs.YtboofamenpcnhaaGreatDoor
set_option maxRecDepth 100000
open Go.RowKit
set_option linter.unusedVariables false
set_option linter.unusedSimpArgs false
/-- The least footprint. -/
def Foot (D S : Nat) (wv : Value) (k : Nat) : Prop := k = D ∨ k = S ∨ wv.ownBlock = some k
theorem DiskIn.small {w : World} {F : Nat → Prop} {D S sc : Nat} {wv : Value} {d : DiskM} (h : DiskIn w F D S sc wv d) : DiskIn w (Foot D S wv) D S sc wv d :=
  { h with fD := .inl rfl, fS := .inr (.inl rfl), fw := fun k hk => .inr (.inr hk) }
theorem DiskIn.foot_lt {w : World} {F : Nat → Prop} {D S sc : Nat} {wv : Value} {d : DiskM} (h : DiskIn w F D S sc wv d) : ∀ k, Foot D S wv k → k < w.heap.size := fun k hk => by
  rcases hk with rfl | rfl | hk
  · exact h.head.lt
  · exact h.slt
  · exact (h.wet.lt k hk).2
theorem DiskIn.foot_in {w : World} {F : Nat → Prop} {D S sc : Nat} {wv : Value} {d : DiskM} (h : DiskIn w F D S sc wv d) : ∀ k, Foot D S wv k → F k := fun k hk => by
  rcases hk with rfl | rfl | hk
  · exact h.fD
  · exact h.fS
  · exact h.fw k hk
/-- Counts that fit. -/
structure Fits (d : DiskM) : Prop where
  acts : d.acts < 4611686018427387904
  left : d.left < 4611686018427387904
  wet : d.wet.length ≤ 1000000000000
def DiskM.write (d : DiskM) (i : Int) (xs : List Int) : DiskM × Int :=
  if (0 ≤ i ∧ i < (d.safe.length : Int)) ∧ xs.length ≤ 64 then (if d.off then (d, 9) else (({ d with wet := d.wet ++ [(i.toNat, pad64 xs)] } : DiskM).act, ({ d with wet := d.wet ++ [(i.toNat, pad64 xs)] } : DiskM).actE)) else (d, 1)
theorem DiskM.actE_two (d : DiskM) : d.actE = 0 ∨ d.actE = 9 := by
  unfold DiskM.actE
  split
  · exact .inl rfl
  · split
    · exact .inr rfl
    · exact .inl rfl
def DiskM.flush (d : DiskM) : DiskM × Int := if d.off then (d, 9) else if d.actE = 9 then (d.act, 9) else (d.act.flushed, 0)
/-- A disk, and its footprint. -/
def DH (w : World) (F : Nat → Prop) (D : Nat) (d : DiskM) : Prop := (∃ S sc wv, DiskIn w F D S sc wv d) ∧ ∀ k, F k → k < w.heap.size
theorem DH.of {w : World} {F : Nat → Prop} {D S sc : Nat} {wv : Value} {d : DiskM} (h : DiskIn w F D S sc wv d) : ∃ F', DH w F' D d ∧ ∀ k, F' k → F k :=
  ⟨Foot D S wv, ⟨⟨S, sc, wv, h.small⟩, h.foot_lt⟩, h.foot_in⟩
theorem DH.turn {w w' : World} {F G : Nat → Prop} {D : Nat} {d : DiskM} (h : DH w F D d) (ht : Turn G w w') (hn : ∀ k, F k → ¬ G k) : DH w' F D d := by
  obtain ⟨⟨S, sc, wv, hd⟩, hl⟩ := h
  exact ⟨⟨S, sc, wv, hd.turn ht hn⟩, fun k hk => Nat.lt_of_lt_of_le (hl k hk) ht.size⟩
theorem DH.turn0 {w w' : World} {F : Nat → Prop} {D : Nat} {d : DiskM} (h : DH w F D d) (ht : Turn (fun _ => False) w w') : DH w' F D d := h.turn ht (fun _ _ => id)
theorem DH.ok {w : World} {F : Nat → Prop} {D : Nat} {d : DiskM} (h : DH w F D d) : d.Ok := by
  obtain ⟨⟨S, sc, wv, hd⟩, hl⟩ := h; exact hd.ok
theorem DH.few {w : World} {F : Nat → Prop} {D : Nat} {d : DiskM} (h : DH w F D d) : d.safe.length ≤ 4096 := by
  obtain ⟨⟨S, sc, wv, hd⟩, hl⟩ := h; exact hd.few
theorem DH.lt {w : World} {F : Nat → Prop} {D : Nat} {d : DiskM} (h : DH w F D d) : D < w.heap.size := by
  obtain ⟨⟨S, sc, wv, hd⟩, hl⟩ := h; exact hd.head.lt
/-- From one to another: only the footprint turns, it grows by what is new. -/
structure Step (w : World) (F : Nat → Prop) (w' : World) (F' : Nat → Prop) : Prop where
  grown : ∀ k, F' k → F k ∨ w.heap.size ≤ k
  turn : Turn F w w'
theorem Step.refl (w : World) (F : Nat → Prop) : Step w F w F := ⟨fun _ h => .inl h, Turn.refl _ _⟩
theorem Step.of0 {w w' : World} (F : Nat → Prop) (h : Turn (fun _ => False) w w') : Step w F w' F := ⟨fun _ h => .inl h, h.mono (fun _ _ h => h.elim)⟩
theorem Step.trans {w1 w2 w3 : World} {F1 F2 F3 : Nat → Prop} (a : Step w1 F1 w2 F2) (b : Step w2 F2 w3 F3) : Step w1 F1 w3 F3 := by
  have hs := a.turn.size
  refine ⟨fun k h => ?_, a.turn.trans b.turn (fun i hi h => ?_)⟩
  · rcases b.grown k h with h | h
    · exact a.grown k h
    · exact .inr (Nat.le_trans hs h)
  · rcases a.grown i h with h | h
    · exact h
    · omega
/-- What is old and not of the footprint is not of the new one. -/
theorem Step.out {w w' : World} {F F' : Nat → Prop} (a : Step w F w' F') {k : Nat} (hk : k < w.heap.size) (hn : ¬ F k) : ¬ F' k := fun h => by
  rcases a.grown k h with h | h
  · exact hn h
  · omega
def DStep (w : World) (F : Nat → Prop) (D : Nat) (d' : DiskM) (r : Value) (e : Ending) (w' : World) : Prop := e = .returned r ∧ ∃ F', DH w' F' D d' ∧ Step w F w' F'
theorem new_dh (n : Nat) (w : World) (i : Int) (hi : min (max i 0) 4096 = (n : Int)) :
    Calls Tryz.prog 19 #[.int .i64 i] w fun e w' => ∃ D F, e = .returned (.pointer (some ⟨D, 0, none⟩)) ∧ DH w' F D (newM n) ∧ (∀ k, F k → w.heap.size ≤ k) ∧ Turn (fun _ => False) w w' := by
  refine (new_any n w i hi).mono ?_
  rintro e w1 ⟨F, D, S, sc, rfl, hd, hF, t1⟩
  obtain ⟨F', h', hi'⟩ := DH.of hd
  exact ⟨D, F', rfl, h', fun k hk => hF k (hi' k hk), t1⟩
theorem write_dh (w : World) (F : Nat → Prop) (D : Nat) (d : DiskM) (i : Int) (v : Value) (xs : List Int) (h : DH w F D d) (hf : Fits d) (hv : Src w v xs) (hx : BytesOk xs) :
    Calls Tryz.prog 23 #[.pointer (some ⟨D, 0, none⟩), .int .i64 i, v] w (DStep w F D (d.write i xs).1 (.int .i64 (d.write i xs).2)) := by
  have h0 := h
  obtain ⟨⟨S, sc, wv, hd⟩, hl⟩ := h
  unfold DiskM.write
  by_cases hin : (0 ≤ i ∧ i < (d.safe.length : Int)) ∧ xs.length ≤ 64
  · rw [if_pos hin]
    obtain ⟨k, rfl⟩ := Int.eq_ofNat_of_zero_le hin.1.1
    obtain ⟨a, c, rfl, _⟩ := src_any hv
    cases hoff : d.off with
    | true =>
      rw [if_pos rfl]
      refine (write_off w F D S sc wv d k a xs.length c hd (by omega) hin.2 hoff).mono ?_
      rintro e w' ⟨rfl, rfl⟩
      exact ⟨rfl, F, h0, Step.refl _ _⟩
    | false =>
      rw [if_neg (by decide), Int.toNat_natCast]
      refine (write_good w F D S sc wv d k _ xs hd (by omega) hoff hv hx hin.2 hf.wet hf.acts hf.left).mono ?_
      rintro e w' ⟨rfl, F', S', sc', wv', hd', hg, t⟩
      rw [hoff] at hd'
      obtain ⟨F2, h2, hi2⟩ := DH.of hd'
      exact ⟨rfl, F2, h2, fun k hk => hg.2 k (hi2 k hk), t⟩
  · rw [if_neg hin]
    obtain ⟨a, c, rfl, _⟩ := src_any hv
    refine (write_bad w F D S sc wv d i a xs.length c hd (by omega)).mono ?_
    rintro e w' ⟨rfl, rfl⟩
    exact ⟨rfl, F, h0, Step.refl _ _⟩
theorem flush_dh (w : World) (F : Nat → Prop) (D : Nat) (d : DiskM) (h : DH w F D d) (hf : Fits d) :
    Calls Tryz.prog 24 #[.pointer (some ⟨D, 0, none⟩)] w (DStep w F D d.flush.1 (.int .i64 d.flush.2)) := by
  have h0 := h
  obtain ⟨⟨S, sc, wv, hd⟩, hl⟩ := h
  unfold DiskM.flush
  cases hoff : d.off with
  | true =>
    rw [if_pos rfl]
    refine (flush_off w F D S sc wv d hd hoff).mono ?_
    rintro e w' ⟨rfl, rfl⟩
    exact ⟨rfl, F, h0, Step.refl _ _⟩
  | false =>
    rw [if_neg (by decide)]
    rcases DiskM.actE_two d with he | he
    · rw [if_neg (by omega)]
      refine (flush_good w F D S sc wv d hd hoff he hf.acts hf.left hf.wet).mono ?_
      rintro e w' ⟨rfl, hd', t⟩
      obtain ⟨F2, h2, hi2⟩ := DH.of hd'
      exact ⟨rfl, F2, h2, fun k hk => .inl (hi2 k hk), t⟩
    · rw [if_pos he]
      refine (flush_stop w F D S sc wv d hd hoff he hf.acts hf.left).mono ?_
      rintro e w' ⟨rfl, hd', t⟩
      obtain ⟨F2, h2, hi2⟩ := DH.of hd'
      exact ⟨rfl, F2, h2, fun k hk => .inl (hi2 k hk), t⟩
def ReadDH (w : World) (F : Nat → Prop) (D : Nat) (d : DiskM) (s : List Int) (e : Ending) (w' : World) : Prop :=
  ∃ B, e = .returned (.tuple #[.slice (some ⟨B, 0, none⟩) 64 64, .int .i64 0]) ∧ w.heap.size ≤ B ∧ w'.rangeAt B 0 (secV s) ∧ w'.there B 0 64 ∧ DH w' F D d ∧ Turn (fun _ => False) w w'
theorem read_dh (w : World) (F : Nat → Prop) (D : Nat) (d : DiskM) (k : Nat) (h : DH w F D d) (hf : Fits d) (hk : k < d.safe.length) (hoff : d.off = false) :
    Calls Tryz.prog 22 #[.pointer (some ⟨D, 0, none⟩), .int .i64 (k : Int)] w (ReadDH w F D d (d.last k)) := by
  have h0 := h
  obtain ⟨⟨S, sc, wv, hd⟩, hl⟩ := h
  refine (read_good w F D S sc wv d k hd hk hoff hf.wet).mono ?_
  rintro e w' ⟨B, rfl, hB, hr, hth, t⟩
  exact ⟨B, rfl, hB, hr, hth, h0.turn0 t, t⟩
theorem sectors_dh (w : World) (F : Nat → Prop) (D : Nat) (d : DiskM) (h : DH w F D d) : Calls Tryz.prog 43 #[.pointer (some ⟨D, 0, none⟩)] w fun e w' => e = .returned (.int .i64 (d.safe.length : Int)) ∧ w' = w := by
  obtain ⟨⟨S, sc, wv, hd⟩, hl⟩ := h
  exact sectors_any D _ _ _ _ w hd.head rfl
end Go.Proofs.YtboofamenpcnhaaGreatDoor
namespace Go.Proofs.YtboofamenpcnhaaGreatDoor
set_option maxRecDepth 100000
open Go.RowKit
set_option linter.unusedVariables false
set_option linter.unusedSimpArgs false
/-- A journal's two cells. -/
def JAt (w : World) (J D last : Nat) : Prop := w.heap[J]? = some (.cells #[.pointer (some ⟨D, 0, none⟩), .int .i64 (last : Int)] 94 (0, 0))
theorem JAt.lt {w : World} {J D last : Nat} (h : JAt w J D last) : J < w.heap.size := (Array.getElem?_eq_some_iff.1 h).1
theorem JAt.c0 {w : World} {J D last : Nat} (h : JAt w J D last) : w.cell? ⟨J, 0, none⟩ = some (.pointer (some ⟨D, 0, none⟩)) := cell_of_row w J 0 _ 94 (0, 0) h
theorem JAt.c1 {w : World} {J D last : Nat} (h : JAt w J D last) : w.cell? ⟨J, 1, none⟩ = some (.int .i64 (last : Int)) := cell_of_row w J 1 _ 94 (0, 0) h
theorem JAt.f1 {w : World} {J D last : Nat} (h : JAt w J D last) : w.frozen? ⟨J, 1, none⟩ = false := frozen_of_row w J 1 _ 94 h
theorem JAt.turn {w w' : World} {J D last : Nat} {G : Nat → Prop} (h : JAt w J D last) (ht : Turn G w w') (hn : ¬ G J) : JAt w' J D last := (ht.block J h.lt hn).trans h
theorem JAt.set {w : World} {J D last : Nat} (h : JAt w J D last) (n : Nat) : JAt (w.setCell ⟨J, 1, none⟩ (.int .i64 (n : Int))) J D n := by
  unfold JAt
  rw [heap_setCell_same w J 1 _ 94 _ h]; rfl
structure JH (w : World) (F : Nat → Prop) (J D : Nat) (d : DiskM) (last : Nat) : Prop where
  dh : DH w F D d
  jat : JAt w J D last
  nJ : ¬ F J
  big : 49 < d.safe.length
theorem JH.turn0 {w w' : World} {F : Nat → Prop} {J D : Nat} {d : DiskM} {last : Nat} (h : JH w F J D d last) (ht : Turn (fun _ => False) w w') : JH w' F J D d last := ⟨h.dh.turn0 ht, h.jat.turn ht id, h.nJ, h.big⟩
theorem JH.step {w w' : World} {F F' : Nat → Prop} {J D : Nat} {d d' : DiskM} {last : Nat} (h : JH w F J D d last) (hd : DH w' F' D d') (hs : Step w F w' F') (hl : d'.safe.length = d.safe.length) : JH w' F' J D d' last := ⟨hd, h.jat.turn hs.turn h.nJ, hs.out h.jat.lt h.nJ, by rw [hl]; exact h.big⟩
set_option maxHeartbeats 800000 in
set_option maxRecDepth 100000 in
theorem jsectors_any (w : World) (F : Nat → Prop) (J D : Nat) (d : DiskM) (last : Nat) (h : JH w F J D d last) :
    Calls Tryz.prog 48 #[.pointer (some ⟨J, 0, none⟩)] w fun e w' => e = .returned (.int .i64 ((d.safe.length - 49 : Nat) : Int)) ∧ w' = w := by
  have c0 := h.jat.c0
  have hfew := h.dh.few
  have hbig := h.big
  have HH := Lib.hid h
  clear h
  go_enter Tryz.func48, Tryz.ntmps48
  go_wp2_with fail
  refine (sectors_dh w F D d HH.out.dh).mono ?_
  rintro e w1 ⟨rfl, rfl⟩
  have hnn : ¬ ((d.safe.length : Int) - 49 < 0) := by omega
  go_wp2_with fail
  go_ret
  refine ⟨?_, rfl⟩
  show Ending.returned (.int .i64 ((d.safe.length : Int) - 49)) = _
  congr 2
  omega
set_option maxHeartbeats 800000 in
set_option maxRecDepth 100000 in
theorem jhas_any (w : World) (F : Nat → Prop) (J D : Nat) (d : DiskM) (last : Nat) (i : Int) (h : JH w F J D d last) :
    Calls Tryz.prog 77 #[.pointer (some ⟨J, 0, none⟩), .int .i64 i] w fun e w' => e = .returned (.bool (decide (0 ≤ i ∧ i < ((d.safe.length - 49 : Nat) : Int)))) ∧ w' = w := by
  have HH := Lib.hid h
  clear h
  by_cases h0 : 0 ≤ i
  · have d0 : decide ((0 : Int) ≤ i) = true := by simp [h0]
    go_enter Tryz.func77, Tryz.ntmps77
    go_wp2_with fail
    refine (jsectors_any w F J D d last HH.out).mono ?_
    rintro e w1 ⟨rfl, rfl⟩
    go_wp2_with fail
    go_ret
    refine ⟨?_, rfl⟩
    show Ending.returned (.bool (decide (i < ((d.safe.length - 49 : Nat) : Int)))) = _
    simp [h0]
  · have d0 : decide ((0 : Int) ≤ i) = false := by simp; omega
    go_enter Tryz.func77, Tryz.ntmps77
    go_wp2_with fail
    go_ret
    exact ⟨rfl, rfl⟩
def JReadPost (w : World) (F : Nat → Prop) (J D : Nat) (d : DiskM) (last : Nat) (s : List Int) (e : Ending) (w' : World) : Prop :=
  ∃ B, e = .returned (.tuple #[.slice (some ⟨B, 0, none⟩) 64 64, .int .i64 0]) ∧ w.heap.size ≤ B ∧ w'.rangeAt B 0 (secV s) ∧ w'.there B 0 64 ∧ JH w' F J D d last ∧ Turn (fun _ => False) w w'
set_option maxHeartbeats 800000 in
set_option maxRecDepth 100000 in
theorem jread_any (w : World) (F : Nat → Prop) (J D : Nat) (d : DiskM) (last k : Nat) (h : JH w F J D d last) (hf : Fits d) (hk : k < d.safe.length - 49) (hoff : d.off = false) :
    Calls Tryz.prog 50 #[.pointer (some ⟨J, 0, none⟩), .int .i64 (k : Int)] w (JReadPost w F J D d last (d.last (49 + k))) := by
  have c0 := h.jat.c0
  have hfew := h.dh.few
  have HH := Lib.hid h
  clear h
  go_enter Tryz.func50, Tryz.ntmps50
  go_wp2_with fail
  refine (jhas_any w F J D d last (k : Int) HH.out).mono ?_
  rintro e w1 ⟨rfl, rfl⟩
  rw [decide_eq_true (show (0 : Int) ≤ (k : Int) ∧ (k : Int) < ((d.safe.length - 49 : Nat) : Int) by omega)]
  go_wp2_with fail
  have hc : (49 : Int) + (k : Int) = ((49 + k : Nat) : Int) := by omega
  rw [hc]
  clear hc
  refine (read_dh w1 F D d (49 + k) HH.out.dh hf (by omega) hoff).mono ?_
  rintro e w2 ⟨B, rfl, hB, hr, hth, hd, t⟩
  go_wp2_with fail
  go_ret2
  exact ⟨B, rfl, hB, hr, hth, HH.out.turn0 t, t⟩
set_option maxHeartbeats 800000 in
set_option maxRecDepth 100000 in
theorem jnext_any (w : World) (F : Nat → Prop) (J D : Nat) (d : DiskM) (last : Nat) (h : JH w F J D d last) (hl : last < 4294967295) :
    Calls Tryz.prog 70 #[.pointer (some ⟨J, 0, none⟩)] w fun e w' => e = .returned (.tuple #[.int .i64 ((last + 1 : Nat) : Int), .int .i64 0]) ∧ JH w' F J D d (last + 1) ∧ Turn (fun k => k = J) w w' := by
  have c1 := h.jat.c1
  have f1 := h.jat.f1
  have HH := Lib.hid h
  clear h
  have hd : decide ((last : Int) < 4294967295) = true := by simp; omega
  have hd' : decide (last < 4294967295) = true := by simp; omega
  go_enter Tryz.func70, Tryz.ntmps70
  go_wp2_with fail
  go_ret2
  have e1 : (last : Int) + 1 = ((last + 1 : Nat) : Int) := by omega
  rw [e1]
  have t : Turn (fun k => k = J) w (w.setCell ⟨J, 1, none⟩ (.int .i64 ((last + 1 : Nat) : Int))) := turn_cell w J 1 _
  exact ⟨rfl, ⟨HH.out.dh.turn t (fun k hk e => HH.out.nJ (e ▸ hk)), HH.out.jat.set (last + 1), HH.out.nJ, HH.out.big⟩, t⟩
/-! A nil journal. -/
end Go.Proofs.YtboofamenpcnhaaGreatDoor
namespace Go.Proofs.YtboofamenpcnhaaGreatDoor
set_option maxRecDepth 100000
open Go.RowKit
set_option linter.unusedVariables false
set_option linter.unusedSimpArgs false
/-- A page in memory. -/
def PageAt (w : World) (R : Nat → Prop) (g i : Nat) (x : Int × List Int) : Prop :=
  w.cell? ⟨g, i * 2, none⟩ = some (.int .i64 x.1) ∧ ∃ u, w.cell? ⟨g, i * 2 + 1, none⟩ = some u ∧ Src w u x.2 ∧ (0 < x.2.length → ∀ k, u.ownBlock = some k → R k)
def PagesIn (w : World) (R : Nat → Prop) (v : Value) (l : List (Int × List Int)) : Prop :=
  (v = .slice none 0 0 ∧ l = []) ∨ ∃ g c, v = .slice (some ⟨g, 0, none⟩) l.length c ∧ l.length ≤ c ∧ R g ∧ g < w.heap.size ∧ ∀ i x, l[i]? = some x → PageAt w R g i x
theorem PageAt.turn {w w' : World} {R G : Nat → Prop} {g i : Nat} {x : Int × List Int} (h : PageAt w R g i x) (ht : Turn G w w') (hn : ∀ k, R k → ¬ G k) (hg : R g) : PageAt w' R g i x := by
  obtain ⟨h1, u, h2, h3, h4⟩ := h
  refine ⟨(ht.cell (p := ⟨g, i * 2, none⟩) (World.block_lt_of_cell? w _ h1) (hn g hg)).trans h1, u, (ht.cell (p := ⟨g, i * 2 + 1, none⟩) (World.block_lt_of_cell? w _ h2) (hn g hg)).trans h2, ?_, h4⟩
  exact src_turn_pos h3 ht (fun h0 k hk => hn k (h4 h0 k hk))
theorem PagesIn.turn {w w' : World} {R G : Nat → Prop} {v : Value} {l : List (Int × List Int)} (h : PagesIn w R v l) (ht : Turn G w w') (hn : ∀ k, R k → ¬ G k) : PagesIn w' R v l := by
  rcases h with h | ⟨g, c, rfl, hc, hg, hlt, hp⟩
  · exact .inl h
  · exact .inr ⟨g, c, rfl, hc, hg, Nat.lt_of_lt_of_le hlt ht.size, fun i x hx => (hp i x hx).turn ht hn hg⟩
theorem PagesIn.turn0 {w w' : World} {R : Nat → Prop} {v : Value} {l : List (Int × List Int)} (h : PagesIn w R v l) (ht : Turn (fun _ => False) w w') : PagesIn w' R v l := h.turn ht (fun _ _ => id)
theorem PagesIn.form {w : World} {R : Nat → Prop} {v : Value} {l : List (Int × List Int)} (h : PagesIn w R v l) : ∃ a c, v = .slice a l.length c ∧ l.length ≤ c := by
  rcases h with ⟨rfl, rfl⟩ | ⟨g, c, rfl, hc, _⟩
  · exact ⟨none, 0, rfl, Nat.le_refl _⟩
  · exact ⟨_, _, rfl, hc⟩
def fitsB (k : Nat) (l : List (Int × List Int)) : Bool := l.all fun x => decide (0 ≤ x.1 ∧ x.1 < (k : Int)) && decide (x.2.length ≤ 64)
theorem fits_bad {k : Nat} {l : List (Int × List Int)} {j : Nat} {x : Int × List Int} (hx : l[j]? = some x) (hb : ¬ ((0 ≤ x.1 ∧ x.1 < (k : Int)) ∧ x.2.length ≤ 64)) : fitsB k l = false := by
  rw [Bool.eq_false_iff]
  intro h
  have := List.all_eq_true.1 h x (List.mem_of_getElem? hx)
  simp at this
  exact hb ⟨this.1, this.2⟩
theorem fits_step {k : Nat} {l : List (Int × List Int)} {j : Nat} {x : Int × List Int} (hx : l[j]? = some x) (h : fitsB k (l.take j) = true) (hb : (0 ≤ x.1 ∧ x.1 < (k : Int)) ∧ x.2.length ≤ 64) : fitsB k (l.take (j + 1)) = true := by
  rw [List.take_add_one, hx]
  unfold fitsB at h ⊢
  rw [List.all_append, h]
  simp [hb.1.1, hb.1.2, hb.2]
theorem zero46 (w : World) : (zeroValue 88).run Tryz.prog w = .ok (.agg #[.int .i64 0, .slice none 0 0]) w := by kernel_rfl
set_option maxHeartbeats 1600000 in
set_option maxRecDepth 100000 in
theorem fits_any (w : World) (F R : Nat → Prop) (J D : Nat) (d : DiskM) (last : Nat) (v : Value) (l : List (Int × List Int)) (h : JH w F J D d last) (hp : PagesIn w R v l) (hl : l.length ≤ 1000000) :
    Calls Tryz.prog 69 #[.pointer (some ⟨J, 0, none⟩), v] w fun e w' => e = .returned (.bool (fitsB (d.safe.length - 49) l)) ∧ Turn (fun _ => False) w w' := by
  have hz := zero46
  obtain ⟨a, c, rfl, hcap⟩ := hp.form
  obtain ⟨n, hn⟩ : ∃ n, l.length = n := ⟨_, rfl⟩
  have HH := Lib.hid h
  have HP := Lib.hid hp
  have HN := Lib.hid hn
  rw [hn] at hcap hl
  clear h hp
  simp only [hn]
  clear hn
  go_enter Tryz.func69, Tryz.ntmps69
  go_wp2_with fail
  go_loopw [9] (fun iv wr => ∃ j : Nat, j ≤ n ∧ iv = .int .i64 (j : Int) ∧ fitsB (d.safe.length - 49) (l.take j) = true ∧ Turn (fun _ => False) w wr) (fun iv _ => (n - intOf iv).toNat)
  case atStart => exact ⟨0, Nat.zero_le _, rfl, rfl, Turn.refl _ _⟩
  case round =>
    obtain ⟨j, hj, rfl, hfit, tr⟩ := hrel
    have HF := Lib.hid hfit
    clear hfit
    by_cases hlt : j < n
    · obtain ⟨x, hx⟩ : ∃ x, l[j]? = some x := ⟨_, List.getElem?_eq_getElem (by rw [HN.out]; exact hlt)⟩
      have hpr := HP.out.turn0 tr
      rcases hpr with ⟨_, h0⟩ | ⟨g, c', hsl, hc', hg, hglt, hpp⟩
      · subst h0; have := HN.out; simp at this; omega
      obtain ⟨p1, u, p2, p3, _⟩ := hpp j x hx
      rw [HN.out] at hsl
      injection hsl with e1 e2 e3
      subst e1
      subst e3
      obtain ⟨ua, uc, rfl, _⟩ := src_any p3
      have HX := Lib.hid hx
      clear hpp p3 hx e2 hc'
      obtain ⟨xa, xs⟩ := x
      dsimp only at p1 p2
      have hd1 : decide ((j : Int) < (n : Int)) = true := by simp; omega
      go_wp2_with fail
      refine (jhas_any _ F J D d last xa (HH.out.turn0 ((tr.alloc _)))).mono ?_
      rintro e w2 ⟨rfl, hw2⟩
      by_cases hin : 0 ≤ xa ∧ xa < ((d.safe.length - 49 : Nat) : Int)
      · rw [decide_eq_true hin]
        by_cases h64 : xs.length ≤ 64
        · have hd2 : decide ((64 : Int) < (xs.length : Int)) = false := by simp; omega
          have hd3 : decide (64 < xs.length) = false := by simp; omega
          subst hw2
          have hr := fits_step (k := d.safe.length - 49) HX.out HF.out ⟨hin, h64⟩
          have HR := Lib.hid hr
          clear hr hin
          go_wp2_with fail
          go_roundw
          case rel => exact ⟨j + 1, by omega, by go_num, HR.out, tr.alloc _⟩
          case measure => simp [intOf]; omega
        · have hd2 : decide ((64 : Int) < (xs.length : Int)) = true := by simp; omega
          have hd3 : decide (64 < xs.length) = true := by simp; omega
          subst hw2
          have hr := fits_bad (k := d.safe.length - 49) HX.out (fun h => h64 h.2)
          have HR := Lib.hid hr
          clear hr hin
          go_wp2_with fail
          go_ret
          exact ⟨by rw [HR.out]; rfl, tr.alloc _⟩
      · rw [decide_eq_false hin]
        subst hw2
        have hr := fits_bad (k := d.safe.length - 49) HX.out (fun h => hin h.1)
        have HR := Lib.hid hr
        clear hr hin
        go_wp2_with fail
        go_ret
        exact ⟨by rw [HR.out]; rfl, tr.alloc _⟩
    · obtain rfl : j = n := by omega
      have hr := HF.out
      rw [← HN.out, List.take_length] at hr
      have HR := Lib.hid hr
      clear hr
      go_wp2_with fail
      go_ret
      exact ⟨by rw [HR.out]; rfl, tr⟩
end Go.Proofs.YtboofamenpcnhaaGreatDoor
namespace Go.Proofs.YtboofamenpcnhaaGreatDoor
set_option maxRecDepth 100000
open Go.RowKit
set_option linter.unusedVariables false
set_option linter.unusedSimpArgs false
inductive DAct where
  | wr (i : Int) (xs : List Int)
  | fl
def DiskM.one (d : DiskM) : DAct → DiskM × Int
  | .wr i xs => d.write i xs
  | .fl => d.flush
def DiskM.run : List DAct → DiskM → DiskM × Int
  | [], d => (d, 0)
  | a :: l, d => if (d.one a).2 = 0 then DiskM.run l (d.one a).1 else d.one a
theorem DiskM.run_app (a b : List DAct) (d : DiskM) : DiskM.run (a ++ b) d = if (DiskM.run a d).2 = 0 then DiskM.run b (DiskM.run a d).1 else DiskM.run a d := by
  induction a generalizing d with
  | nil => simp [DiskM.run]
  | cons x a ih =>
    by_cases h : (d.one x).2 = 0
    · have e1 : DiskM.run (x :: a) d = DiskM.run a (d.one x).1 := by simp only [DiskM.run, if_pos h]
      have e2 : DiskM.run (x :: a ++ b) d = DiskM.run (a ++ b) (d.one x).1 := by simp only [List.cons_append, DiskM.run, if_pos h]
      rw [e1, e2, ih]
    · have e1 : DiskM.run (x :: a) d = d.one x := by simp only [DiskM.run, if_neg h]
      have e2 : DiskM.run (x :: a ++ b) d = d.one x := by simp only [List.cons_append, DiskM.run, if_neg h]
      rw [e1, e2, if_neg h]
theorem DiskM.run_ok {a : List DAct} {d : DiskM} (b : List DAct) (h : (DiskM.run a d).2 = 0) : DiskM.run (a ++ b) d = DiskM.run b (DiskM.run a d).1 := by rw [DiskM.run_app, if_pos h]
theorem DiskM.run_bad {a : List DAct} {d : DiskM} (b : List DAct) (h : ¬ (DiskM.run a d).2 = 0) : DiskM.run (a ++ b) d = DiskM.run a d := by rw [DiskM.run_app, if_neg h]
theorem DiskM.run_one (x : DAct) (d : DiskM) : DiskM.run [x] d = d.one x := by
  simp only [DiskM.run]
  split
  · rename_i h; rw [← h]
  · rfl
/-- One act more: all went well until now. -/
theorem DiskM.run_next {l : List DAct} {j : Nat} {x : DAct} {d dj : DiskM} (hx : l[j]? = some x) (h : DiskM.run (l.take j) d = (dj, 0)) : DiskM.run (l.take (j + 1)) d = dj.one x := by
  rw [List.take_add_one, hx]
  show DiskM.run (List.take j l ++ [x]) d = _
  rw [DiskM.run_ok _ (by rw [h]), h, DiskM.run_one]
/-- .. and one that didn't: that is all. -/
theorem DiskM.run_stop {l : List DAct} {j : Nat} {x : DAct} {d dj : DiskM} (hx : l[j]? = some x) (h : DiskM.run (l.take j) d = (dj, 0)) (hb : ¬ (dj.one x).2 = 0) : DiskM.run l d = dj.one x := by
  have h1 := DiskM.run_next hx h
  have h2 : l.take (j + 1) ++ l.drop (j + 1) = l := List.take_append_drop _ _
  rw [← h2, DiskM.run_bad _ (by rw [h1]; exact hb), h1]
/-- Room for so many acts more. -/
structure Room (n : Nat) (d : DiskM) : Prop where
  acts : d.acts + n < 4611686018427387904
  left : d.left < 4611686018427387904
  wet : d.wet.length + n ≤ 1000000000000
theorem Room.fits {n : Nat} {d : DiskM} (h : Room n d) : Fits d := ⟨by have := h.acts; omega, h.left, by have := h.wet; omega⟩
theorem Room.less {n m : Nat} {d : DiskM} (h : Room n d) (hm : m ≤ n) : Room m d := ⟨by have := h.acts; omega, h.left, by have := h.wet; omega⟩
theorem DiskM.act_left (d : DiskM) : d.act.left ≤ d.left := by
  unfold DiskM.act
  split
  · exact Nat.le_refl _
  · split
    · exact Nat.le_refl _
    · exact Nat.sub_le _ _
theorem Room.one {n : Nat} {d : DiskM} (h : Room (n + 1) d) (a : DAct) : Room n (d.one a).1 := by
  have h1 := h.acts
  have h2 := h.left
  have h3 := h.wet
  cases a with
  | wr i xs =>
    simp only [DiskM.one, DiskM.write]
    split
    · split
      · exact h.less (by omega)
      · have s := DiskM.act_same ({ d with wet := d.wet ++ [(i.toNat, pad64 xs)] } : DiskM)
        have l := DiskM.act_left ({ d with wet := d.wet ++ [(i.toNat, pad64 xs)] } : DiskM)
        refine ⟨by rw [s.2.2.1]; show d.acts + 1 + n < _; omega, Nat.lt_of_le_of_lt l h2, ?_⟩
        rw [s.2.1]
        simp; omega
    · exact h.less (by omega)
  | fl =>
    simp only [DiskM.one, DiskM.flush]
    have s := DiskM.act_same d
    have l := DiskM.act_left d
    split
    · exact h.less (by omega)
    · split
      · exact ⟨by rw [s.2.2.1]; omega, Nat.lt_of_le_of_lt l h2, by rw [s.2.1]; omega⟩
      · refine ⟨?_, Nat.lt_of_le_of_lt l h2, ?_⟩
        · show d.act.acts + n < _; rw [s.2.2.1]; omega
        · show ([] : List (Nat × List Int)).length + n ≤ _; simp; omega
theorem DiskM.one_len (d : DiskM) (a : DAct) : (d.one a).1.safe.length = d.safe.length := by
  cases a with
  | wr i xs =>
    simp only [DiskM.one, DiskM.write]
    split
    · split
      · rfl
      · rw [(DiskM.act_same _).1]
    · rfl
  | fl =>
    simp only [DiskM.one, DiskM.flush]
    split
    · rfl
    · split
      · rw [(DiskM.act_same _).1]
      · show (keepK d.act.safe d.act.wet _ _).length = _
        rw [keepK_len, (DiskM.act_same _).1]
theorem DiskM.run_len (l : List DAct) (d : DiskM) : (DiskM.run l d).1.safe.length = d.safe.length := by
  induction l generalizing d with
  | nil => rfl
  | cons a l ih =>
    simp only [DiskM.run]
    split
    · rw [ih, DiskM.one_len]
    · exact DiskM.one_len d a
theorem Room.run {l : List DAct} {n : Nat} {d : DiskM} (h : Room (l.length + n) d) : Room n (DiskM.run l d).1 := by
  induction l generalizing d with
  | nil => simpa [DiskM.run] using h
  | cons a l ih =>
    have h' : Room (l.length + n) (d.one a).1 := Room.one (n := l.length + n) (by rw [show l.length + n + 1 = (a :: l).length + n by simp; omega]; exact h) a
    simp only [DiskM.run]
    split
    · exact ih h'
    · exact h'.less (by omega)
/-- The pages where they belong, and a flush. -/
def layA (l : List (Int × List Int)) : List DAct := l.map fun x => .wr (49 + x.1) x.2
end Go.Proofs.YtboofamenpcnhaaGreatDoor
namespace Go.Proofs.YtboofamenpcnhaaGreatDoor
set_option maxRecDepth 100000
open Go.RowKit
set_option linter.unusedVariables false
set_option linter.unusedSimpArgs false
def JStep (w : World) (F : Nat → Prop) (J D : Nat) (last : Nat) (d' : DiskM × Int) (e : Ending) (w' : World) : Prop := e = .returned (.int .i64 d'.2) ∧ ∃ F', JH w' F' J D d'.1 last ∧ Step w F w' F'
set_option maxHeartbeats 4000000 in
set_option maxRecDepth 100000 in
theorem lay_any (w : World) (F R : Nat → Prop) (J D : Nat) (d : DiskM) (last : Nat) (v : Value) (l : List (Int × List Int)) (h : JH w F J D d last) (hp : PagesIn w R v l)
    (hR : ∀ k, R k → k < w.heap.size ∧ ¬ F k) (hb : ∀ x ∈ l, BytesOk x.2) (hl : l.length ≤ 24) (hroom : Room 100 d) (hfit : fitsB (d.safe.length - 49) l = true) :
    Calls Tryz.prog 72 #[.pointer (some ⟨J, 0, none⟩), v] w (JStep w F J D last (DiskM.run (layA l ++ [.fl]) d)) := by
  have hz := zero46
  obtain ⟨a, c, rfl, hcap⟩ := hp.form
  obtain ⟨n, hn⟩ : ∃ n, l.length = n := ⟨_, rfl⟩
  have hfew := h.dh.few
  have HH := Lib.hid h
  have HP := Lib.hid hp
  have HN := Lib.hid hn
  have HFIT := Lib.hid hfit
  have HRO := Lib.hid hroom
  rw [hn] at hcap hl
  clear h hp hfit hroom
  simp only [hn]
  clear hn
  go_enter Tryz.func72, Tryz.ntmps72
  go_wp2_with fail
  go_loopw [10] (fun iv wr => ∃ j : Nat, j ≤ n ∧ iv = .int .i64 (j : Int) ∧ ∃ Fj dj, DiskM.run ((layA l).take j) d = (dj, 0) ∧ DH wr Fj D dj ∧ Step w F wr Fj) (fun iv _ => (n - intOf iv).toNat)
  case atStart => exact ⟨0, Nat.zero_le _, rfl, F, d, rfl, HH.out.dh, Step.refl _ _⟩
  case round =>
    obtain ⟨j, hj, rfl, Fj, dj, hrun, hdj, hst⟩ := hrel
    have HRUN := Lib.hid hrun
    have HDJ := Lib.hid hdj
    have hroomj : Room 76 dj := by
      have h1 : Room 76 (DiskM.run ((layA l).take j) d).1 := Room.run (HRO.out.less (by simp [layA]; have := HN.out; omega))
      rw [hrun] at h1; exact h1
    have HRM := Lib.hid hroomj
    have hRj : ∀ k, R k → ¬ Fj k := fun k hk => hst.out (hR k hk).1 (hR k hk).2
    have hJc := (HH.out.jat.turn hst.turn HH.out.nJ)
    have c0 := hJc.c0
    have hJlt := hJc.lt
    have hnJ : ¬ Fj J := hst.out HH.out.jat.lt HH.out.nJ
    have HNJ := Lib.hid hnJ
    have hlenj : dj.safe.length = d.safe.length := by have := DiskM.run_len ((layA l).take j) d; rw [hrun] at this; exact this
    have HLJ := Lib.hid hlenj
    have hJH : JH wr Fj J D dj last := HH.out.step hdj hst hlenj
    have HJH := Lib.hid hJH
    clear hJc hrun hdj hroomj hnJ hlenj hJH
    by_cases hlt : j < n
    · obtain ⟨x, hx⟩ : ∃ x, l[j]? = some x := ⟨_, List.getElem?_eq_getElem (by rw [HN.out]; exact hlt)⟩
      have hpr := HP.out.turn hst.turn (fun k hk => (hR k hk).2)
      rcases hpr with ⟨_, h0⟩ | ⟨g, c', hsl, hc', hg, hglt, hpp⟩
      · subst h0; have := HN.out; simp at this; omega
      obtain ⟨p1, u, p2, p3, p4⟩ := hpp j x hx
      rw [HN.out] at hsl
      injection hsl with e1 e2 e3
      subst e1
      subst e3
      obtain ⟨ua, uc, rfl, _⟩ := src_any p3
      have hbx := hb x (List.mem_of_getElem? hx)
      have hfx : (0 ≤ x.1 ∧ x.1 < ((d.safe.length - 49 : Nat) : Int)) := by
        have := List.all_eq_true.1 HFIT.out x (List.mem_of_getElem? hx)
        simp at this
        omega
      have hax : (layA l)[j]? = some (.wr (49 + x.1) x.2) := by simp [layA, hx]
      have HAX := Lib.hid hax
      have HX := Lib.hid hx
      have HSR := Lib.hid p3
      have HP4 := Lib.hid p4
      clear hpp p3 hx e2 hc' hax p4
      obtain ⟨xa, xs⟩ := x
      dsimp only at p1 p2 hbx hfx
      have HB := Lib.hid hbx
      clear hbx
      have hd1 : decide ((j : Int) < (n : Int)) = true := by simp; omega
      go_wp2_with fail
      have t1 := (Turn.refl (fun _ => False) wr).alloc (.cells #[.int .i64 xa, .slice ua xs.length uc] 88)
      have q0' : (wr.alloc (.cells #[.int .i64 xa, .slice ua xs.length uc] 88)).cell? ⟨J, 0, none⟩ = some (.pointer (some ⟨D, 0, none⟩)) := (t1.cell (p := ⟨J, 0, none⟩) hJlt id).trans c0
      have hnew := heap_alloc_new wr (.cells #[.int .i64 xa, .slice ua xs.length uc] 88)
      have q1' : (wr.alloc (.cells #[.int .i64 xa, .slice ua xs.length uc] 88)).cell? ⟨wr.heap.size, 0, none⟩ = some (.int .i64 xa) := cell_of_row _ _ 0 _ 88 (0, 0) hnew
      have q2' : (wr.alloc (.cells #[.int .i64 xa, .slice ua xs.length uc] 88)).cell? ⟨wr.heap.size, 1, none⟩ = some (.slice ua xs.length uc) := cell_of_row _ _ 1 _ 88 (0, 0) hnew
      have hNB : ¬ Fj wr.heap.size := fun hk => by have := HDJ.out.2 _ hk; omega
      have HNB := Lib.hid hNB
      clear hNB hnew
      have hBlt : wr.heap.size < (wr.alloc (.cells #[.int .i64 xa, .slice ua xs.length uc] 88)).heap.size := by simp
      have HBS := Lib.hid (rfl : wr.heap.size = wr.heap.size)
      obtain ⟨w1, hw1⟩ : ∃ w1, wr.alloc (.cells #[.int .i64 xa, .slice ua xs.length uc] 88) = w1 := ⟨_, rfl⟩
      rw [hw1] at t1 q0' q1' q2' hBlt ⊢
      obtain ⟨B, hBB⟩ : ∃ B, wr.heap.size = B := ⟨_, rfl⟩
      rw [hBB] at q1' q2' hBlt HNB ⊢
      clear hw1 hBB HBS
      have HD1 := Lib.hid (HDJ.out.turn0 t1)
      have HSRC := Lib.hid (HSR.out.turn t1 (fun _ _ => id))
      have hJlt1 : J < w1.heap.size := Nat.lt_of_lt_of_le hJlt t1.size
      have q0 : w1.drew.cell? ⟨J, 0, none⟩ = some (.pointer (some ⟨D, 0, none⟩)) := q0'
      have q1 : w1.drew.cell? ⟨B, 0, none⟩ = some (.int .i64 xa) := q1'
      have q2 : w1.drew.cell? ⟨B, 1, none⟩ = some (.slice ua xs.length uc) := q2'
      have hwr : IntKind.i64.wrap (49 + xa) = 49 + xa := by rw [IntKind.wrap_i64]; omega
      refine wp_region_held_drew (S := fun w' => w'.cell? ⟨J, 0, none⟩ = some (.pointer (some ⟨D, 0, none⟩)) ∧ w'.cell? ⟨B, 0, none⟩ = some (.int .i64 xa) ∧ w'.cell? ⟨B, 1, none⟩ = some (.slice ua xs.length uc)) (by kernel_rfl) ⟨q0, q1, q2⟩ (fun hHeld => ?_)
      refine wpAnyH_take (i := 0) (v := .pointer (some ⟨J, 0, none⟩)) rfl (by kernel_rfl) (by kernel_rfl) (by kernel_rfl) (fun _ _ _ h => h) (Or.inl ⟨by rfl, ?ya0⟩) (by assumption) ?ra0
      case ya0 => (intro wq hSw; (try simp only [zq1, zq2, zq3]); go_simp; try with_reducible rfl)
      case ra0 =>
      try simp only [Act.put, zq4, zq5, zq6, zq1, zq2, zq3]
      refine wpAnyH_take (i := 1) (v := .pointer (some ⟨J, 0, none⟩)) rfl (by kernel_rfl) (by kernel_rfl) (by kernel_rfl) (fun _ _ _ h => h) (Or.inl ⟨by rfl, ?ya1⟩) (by assumption) ?ra1
      case ya1 => (intro wq hSw; (try simp only [zq1, zq2, zq3]); go_simp; try with_reducible rfl)
      case ra1 =>
      try simp only [Act.put, zq4, zq5, zq6, zq1, zq2, zq3]
      refine wpAnyH_take (i := 2) (v := .pointer (some ⟨J, 0, none⟩)) rfl (by kernel_rfl) (by kernel_rfl) (by kernel_rfl) (fun _ _ _ h => h) (Or.inl ⟨by rfl, ?ya2⟩) (by assumption) ?ra2
      case ya2 => (intro wq hSw; (try simp only [zq1, zq2, zq3]); go_simp; try with_reducible rfl)
      case ra2 =>
      try simp only [Act.put, zq4, zq5, zq6, zq1, zq2, zq3]
      refine wpAnyH_take (i := 3) (v := .pointer (some ⟨D, 0, none⟩)) rfl (by kernel_rfl) (by kernel_rfl) (by kernel_rfl) (fun _ _ _ h => h) (Or.inl ⟨by rfl, ?ya3⟩) (by assumption) ?ra3
      case ya3 => (intro wq hSw; (obtain ⟨s0, s1, s2⟩ := hSw); (try simp only [zq1, zq2, zq3]); go_simp; try with_reducible rfl)
      case ra3 =>
      try simp only [Act.put, zq4, zq5, zq6, zq1, zq2, zq3]
      refine wpAnyH_take (i := 4) (v := .pointer (some ⟨B, 0, none⟩)) rfl (by kernel_rfl) (by kernel_rfl) (by kernel_rfl) (fun _ _ _ h => h) (Or.inl ⟨by rfl, ?ya4⟩) (by assumption) ?ra4
      case ya4 => (intro wq hSw; (try simp only [zq1, zq2, zq3]); go_simp; try with_reducible rfl)
      case ra4 =>
      try simp only [Act.put, zq4, zq5, zq6, zq1, zq2, zq3]
      refine wpAnyH_take (i := 5) (v := .int .i64 xa) rfl (by kernel_rfl) (by kernel_rfl) (by kernel_rfl) (fun _ _ _ h => h) (Or.inl ⟨by rfl, ?ya5⟩) (by assumption) ?ra5
      case ya5 => (intro wq hSw; (obtain ⟨s0, s1, s2⟩ := hSw); (try simp only [zq1, zq2, zq3]); go_simp; try with_reducible rfl)
      case ra5 =>
      try simp only [Act.put, zq4, zq5, zq6, zq1, zq2, zq3]
      refine wpAnyH_take (i := 6) (v := .int .i64 (49 + xa)) rfl (by kernel_rfl) (by kernel_rfl) (by kernel_rfl) (fun _ _ _ h => h) (Or.inl ⟨by rfl, ?ya6⟩) (by assumption) ?ra6
      case ya6 => (intro wq hSw; (try simp only [zq1, zq2, zq3]); go_simp; try with_reducible rfl)
      case ra6 =>
      try simp only [Act.put, zq4, zq5, zq6, zq1, zq2, zq3]
      refine wpAnyH_take (i := 7) (v := .pointer (some ⟨B, 1, none⟩)) rfl (by kernel_rfl) (by kernel_rfl) (by kernel_rfl) (fun _ _ _ h => h) (Or.inl ⟨by rfl, ?ya7⟩) (by assumption) ?ra7
      case ya7 => (intro wq hSw; (try simp only [zq1, zq2, zq3]); go_simp; try with_reducible rfl)
      case ra7 =>
      try simp only [Act.put, zq4, zq5, zq6, zq1, zq2, zq3]
      refine wpAnyH_take (i := 8) (v := .slice ua xs.length uc) rfl (by kernel_rfl) (by kernel_rfl) (by kernel_rfl) (fun _ _ _ h => h) (Or.inl ⟨by rfl, ?ya8⟩) (by assumption) ?ra8
      case ya8 => (intro wq hSw; (obtain ⟨s0, s1, s2⟩ := hSw); (try simp only [zq1, zq2, zq3]); go_simp; try with_reducible rfl)
      case ra8 =>
      try simp only [Act.put, zq4, zq5, zq6, zq1, zq2, zq3]
      refine wpAnyH_ready (rs := [9]) (by kernel_rfl) (by simp) ?_
      refine AllReadyH.cons rfl (fun K hK => ?_) AllReadyH.nil
      go_simp
      refine (write_dh w1.drew Fj D dj (49 + xa) (.slice ua xs.length uc) xs (HD1.out.turn0 (Turn.refl _ w1).drew) HRM.out.fits (HSRC.out.turn (Turn.refl (fun _ => False) w1).drew (fun _ _ => id)) HB.out).mono ?_
      rintro e w2 ⟨rfl, F2, hd2, hs2⟩
      have hs2' : Step w1 Fj w2 F2 := ⟨hs2.grown, hs2.turn.of_drew⟩
      have hJ2 := (hs2'.turn.cell (p := ⟨J, 0, none⟩) hJlt1 HNJ.out).trans q0
      have hB20 := (hs2'.turn.cell (p := ⟨B, 0, none⟩) hBlt HNB.out).trans q1
      have hB21 := (hs2'.turn.cell (p := ⟨B, 1, none⟩) hBlt HNB.out).trans q2
      clear hs2
      refine hK.out _ _ ⟨hJ2, hB20, hB21⟩ (fun _ => ?_)
      clear hK K
      try simp only [Act.put, zq4, zq5, zq6, zq1, zq2, zq3]
      obtain ⟨rr, hrr⟩ : ∃ rr, (dj.write (49 + xa) xs).2 = rr := ⟨_, rfl⟩
      rw [hrr]
      have HRR := Lib.hid hrr
      clear hrr
      refine wpAnyH_take (i := 10) (v := .int .i64 rr) rfl (by kernel_rfl) (by kernel_rfl) (by kernel_rfl) (fun _ _ _ h => h) (Or.inl ⟨by rfl, ?ya10⟩) (by assumption) ?ra10
      case ya10 => (intro wq hSw; (try simp only [zq1, zq2, zq3]); go_simp; try with_reducible rfl)
      case ra10 =>
      try simp only [Act.put, zq4, zq5, zq6, zq1, zq2, zq3]
      refine wpAnyH_done (by kernel_rfl) ?_ _
      change Exit.then _ _ _ _ w2
      clear hHeld q0 q1 q2 q0' q1' q2' hwr
      have hone : dj.one (.wr (49 + xa) xs) = dj.write (49 + xa) xs := rfl
      by_cases hr0 : rr = 0
      · subst hr0
        go_wp2_with fail
        go_roundw
        case rel =>
          refine ⟨j + 1, by omega, by go_num, F2, (dj.write (49 + xa) xs).1, ?_, hd2, (hst.trans (Step.of0 Fj t1)).trans hs2'⟩
          rw [DiskM.run_next HAX.out HRUN.out, hone, ← HRR.out]
        case measure => simp [intOf]; omega
      · have hr1 : (rr == 0) = false := by rw [beq_eq_false_iff_ne]; exact hr0
        go_wp2_with fail
        go_ret
        have hfin : DiskM.run (layA l ++ [.fl]) d = dj.write (49 + xa) xs := by
          have h1 := DiskM.run_stop HAX.out HRUN.out (by rw [hone, HRR.out]; exact hr0)
          rw [DiskM.run_bad _ (by rw [h1, hone, HRR.out]; exact hr0), h1, hone]
        rw [hfin]
        refine ⟨by rw [HRR.out]; rfl, F2, ?_, (hst.trans (Step.of0 Fj t1)).trans hs2'⟩
        exact (HJH.out.turn0 t1).step hd2 hs2' (DiskM.one_len dj (.wr (49 + xa) xs))
    · obtain rfl : j = n := by omega
      have hall : DiskM.run (layA l) d = (dj, 0) := by
        have := HRUN.out
        rw [List.take_of_length_le (by simp [layA]; have := HN.out; omega)] at this; exact this
      have hfin : DiskM.run (layA l ++ [.fl]) d = dj.flush := by
        rw [DiskM.run_ok _ (by rw [hall]), hall, DiskM.run_one]; rfl
      have HFN := Lib.hid hfin
      clear hfin hall
      go_wp2_with fail
      refine (flush_dh wr Fj D dj HDJ.out HRM.out.fits).mono ?_
      rintro e w2 ⟨rfl, F2, hd2, hs2⟩
      go_wp2_with fail
      go_ret
      rw [HFN.out]
      exact ⟨rfl, F2, HJH.out.step hd2 hs2 (DiskM.one_len dj .fl), hst.trans hs2⟩
end Go.Proofs.YtboofamenpcnhaaGreatDoor
namespace Go.Proofs.YtboofamenpcnhaaGreatDoor
set_option maxRecDepth 100000
open Go.RowKit
set_option linter.unusedVariables false
set_option linter.unusedSimpArgs false
def catN (xs : Nat → List Int) (n : Nat) : List Int := (List.range n).flatMap xs
theorem catN_next (xs : Nat → List Int) (n : Nat) : catN xs (n + 1) = catN xs n ++ xs n := by simp [catN, List.range_succ]
theorem catN_mono (xs : Nat → List Int) {k n : Nat} (h : k ≤ n) : (catN xs k).length ≤ (catN xs n).length := by
  induction n with
  | zero => obtain rfl : k = 0 := by omega
            exact Nat.le_refl _
  | succ n ih =>
    rcases Nat.lt_or_ge n k with h1 | h1
    · obtain rfl : k = n + 1 := by omega
      exact Nat.le_refl _
    · rw [catN_next, List.length_append]; have := ih h1; omega
set_option maxHeartbeats 1600000 in
theorem concat_all (w : World) (G c0 n : Nat) (hc0 : n ≤ c0) (hn : n ≤ 100) (g o c : Nat → Nat) (xs : Nat → List Int)
    (hG : ∀ k, k < n → w.cell? ⟨G, k, none⟩ = some (.slice (some ⟨g k, o k, none⟩) (xs k).length (c k))) (h : ∀ k, k < n → ∀ i, i < (xs k).length → w.cell? ⟨g k, o k + i, none⟩ = some (.int .u8 ((xs k).getD i 0)))
    (hpos : 0 < (catN xs n).length) (hle : (catN xs n).length ≤ 1000) :
    Calls Tryz.prog 76 #[.slice (some ⟨G, 0, none⟩) n c0] w (Made w (catN xs n)) := by
  obtain ⟨i0, hi, hz0, hz1, hz2⟩ := info_parts Tryz.info5
  have HH := Lib.hid h
  have HG := Lib.hid hG
  clear h hG
  obtain ⟨T, hT⟩ : ∃ T, (catN xs n).length = T := ⟨_, rfl⟩
  rw [hT] at hpos hle
  have HT := Lib.hid hT
  clear hT
  go_enter Tryz.func76, Tryz.ntmps76
  go_wp2_with fail
  go_loop [3, 11] (fun sv iv => ∃ (k : Nat), k ≤ n ∧ iv = .int .i64 (k : Int) ∧ sv = .int .i64 ((catN xs k).length : Int)) (fun _ i => n - (intOf i).toNat)
  case atStart => exact ⟨0, Nat.zero_le _, rfl, rfl⟩
  case round =>
    obtain ⟨k, hk, rfl, rfl⟩ := hrel
    by_cases hlt : k < n
    · have c1 := HG.out k hlt
      have hm := catN_mono xs (show k + 1 ≤ n by omega)
      have hm2 := catN_next xs k
      have hlen : (catN xs (k + 1)).length = (catN xs k).length + (xs k).length := by rw [hm2, List.length_append]
      have hT2 := HT.out
      rw [hT2] at hm
      have HLEN := Lib.hid hlen
      obtain ⟨L, hL⟩ : ∃ L, (xs k).length = L := ⟨_, rfl⟩
      obtain ⟨A, hA⟩ : ∃ A, (catN xs k).length = A := ⟨_, rfl⟩
      rw [hL] at c1
      rw [hL, hA] at hlen
      have HL := Lib.hid hL
      have HA := Lib.hid hA
      have hb : A + L ≤ 1000 := by omega
      rw [hA]
      have hd : decide ((A : Int) + (L : Int) < 0) = false := by simp; omega
      have gi : (0 : Int) ≤ (k : Int) ∧ (k : Int) < (n : Int) := by omega
      clear hlen hm hm2 hT2 hL hA
      go_wp2_with fail
      go_round
      case rel => exact ⟨k + 1, by omega, by go_num, by rw [HLEN.out, HL.out, HA.out]; go_num⟩
      case measure => simp [intOf]; omega
    · obtain rfl : k = n := by omega
      rw [HT.out]
      go_wp2_with fail
      refine (grow_any T hpos hle w).mono ?_
      rintro e w1 ⟨v1, rfl, ho1, t1⟩
      have HO1 := Lib.hid ho1
      clear ho1
      go_wp2_with fail
      go_loopw [6, 27] (fun sv iv wr => ∃ (j : Nat), j ≤ k ∧ iv = .int .i64 (j : Int) ∧ wr.ownsRow w.heap.size 5 1 sv (catN xs j).length ((catN xs j).map (Value.int .u8)) ∧ Turn (fun _ => False) w wr) (fun _ i _ => k - (intOf i).toNat)
      case atStart => exact ⟨0, Nat.zero_le _, rfl, HO1.out, t1⟩
      case round =>
        obtain ⟨j, hj, rfl, ho, tr⟩ := hrel
        have HO := Lib.hid ho
        clear ho
        by_cases hjk : j < k
        · have c0 := HG.out j hjk
          have c1 := (tr.cell (p := ⟨G, j, none⟩) (World.block_lt_of_cell? w _ c0) id).trans c0
          have hnews := news_of trivial (fun i hi => (tr.cell (p := ⟨g j, o j + i, none⟩) (World.block_lt_of_cell? w _ (HH.out j hjk i hi)) id).trans (HH.out j hjk i hi))
          have HN := Lib.hid hnews
          obtain ⟨L, hL⟩ : ∃ L, (xs j).length = L := ⟨_, rfl⟩
          rw [hL] at c1
          have HL := Lib.hid hL
          have HB := Lib.hid (show (catN xs j).length + L ≤ 1000 by have := catN_mono xs (show j + 1 ≤ k by omega); rw [catN_next, List.length_append] at this; have := HT.out; omega)
          have gi : (0 : Int) ≤ (j : Int) ∧ (j : Int) < (k : Int) := by omega
          clear hnews hL c0
          go_wp2_with (at_builtin; refine wpList_append_where _ rfl (.tmp 31) (.tmp 32) 29 rfl w.heap.size 5 i0 (.int .u8 0) 1 1 Tryz.underlying29 hi hz0 hz1 hz2 rfl (by decide) _ (catN xs j).length ((catN xs j).map (Value.int .u8)) rfl HO.out ⟨g j, o j, none⟩ L (c j) ((xs j).map (Value.int .u8)) rfl (by simp [HL.out]) HN.out (ints_oneCell _ _) ?d3 ?d4 tr.size ?_)
          case d3 => have := HB.out; unfold maxLen; omega
          case d4 => have := HB.out; omega
          intro v' w' ho' hg' _ _
          have t' := tr.grown hg' (fun q h hq => by have := (HO.out.lt q h).1; omega)
          have e' : (catN xs j).length + L = (catN xs (j + 1)).length := by rw [catN_next, List.length_append, HL.out]
          rw [e', ← List.map_append, ← catN_next] at ho'
          have HO2 := Lib.hid ho'
          clear ho' e'
          go_wp2_with fail
          go_round
          case rel => exact ⟨j + 1, by omega, by go_num, HO2.out, t'⟩
          case measure => simp [intOf]; omega
        · obtain rfl : j = k := by omega
          go_wp2_with fail
          go_ret
          refine ⟨_, rfl, Reads.of_owns HO.out, fun q hq => (HO.out.lt q hq).1, tr⟩
end Go.Proofs.YtboofamenpcnhaaGreatDoor
