/- Own: loops of DiskPlays. No statement is proved here. -/
import Derived.Test.YtckeackepolhdaaRoundA
import Derived.Test.YtckeackepolhdaaRoundF
import Derived.Test.YtckeackepolhdaaRoundC
import Derived.Test.YtckeackepolhdaaRoundW
import Derived.Test.YtckeackepolhdaaRoundX
import Derived.Test.YtckeackepolhdaaRoundY
import Derived.Test.YtckeackepolhdaaRoundZ
namespace Go.Proofs.Ytckeackepolhdaa
open Go.RowKit
set_option linter.unusedVariables false
set_option linter.unusedSimpArgs false

theorem made26 (k : Nat) : madeCells (Value.slice none 0 0).cells (k * 1) = (List.replicate k (Value.slice none 0 0)).toArray := by
  apply Array.ext'
  simp [madeCells, Value.cells]
  apply List.ext_getElem?
  intro j
  by_cases h : j < k
  · simp [h, Nat.mod_one]
  · simp [h]
theorem run_make26 (w : World) (k : Nat) (hk : k ≤ 1000) : (Instr.makeSlice 26 (.int .i64 (k : Int)) (.int .i64 (k : Int))).run Try.prog w = .ok (.slice (some ⟨w.heap.size, 0, none⟩) k k) (w.alloc (.cells (List.replicate k (Value.slice none 0 0)).toArray 27)) := by
  obtain ⟨i0, hi, hz1, hz2, hz0⟩ := info27a
  have h := run_make (P := Try.prog) w 26 27 i0 _ Try.underlying26 hi hz0 .i64 .i64 (k : Int) (k : Int) (by omega) (by omega) (by rw [hz2]; omega) (by omega)
  rw [h, hz1, Int.toNat_natCast, made26]

set_option maxHeartbeats 4000000 in
set_option maxRecDepth 1000000 in
theorem diskPlays_walk (w : World) (n' : Int) (v : Value) (hn' : 0 ≤ n' ∧ n' < 256) (hv : v = .slice none 0 0 ∨ ∃ g o n cap, v = .slice (some ⟨g, o, none⟩) n cap ∧ n ≤ cap ∧ cap ≤ maxLen ∧ ∀ i, i < n → ∃ pv a, ActAt w g o i pv a) :
    Calls Try.prog 3 #[.int .u8 n', v] w (fun e w' => e = .returned (.bool true) ∧ Turn (fun _ => False) w w') := by
  obtain ⟨nn, rfl⟩ := Int.eq_ofNat_of_zero_le hn'.1
  obtain ⟨av, n, cp, rfl, hn63, hacts⟩ : ∃ av n cp, v = .slice av n cp ∧ n ≤ 9223372036854775807 ∧ ∀ i, i < n → ∃ g o pv a, av = some ⟨g, o, none⟩ ∧ ActAt w g o i pv a := by
    rcases hv with rfl | ⟨g, o, n, cap, rfl, h1, h2, h3⟩
    · exact ⟨none, 0, 0, rfl, by omega, fun i hi => by omega⟩
    · refine ⟨_, _, _, rfl, by simp only [maxLen] at h2; omega, fun i hi => ?_⟩
      obtain ⟨pv, a, h⟩ := h3 i hi
      exact ⟨g, o, pv, a, rfl, h⟩
  have HAC := Lib.hid hacts
  clear hv hacts
  by_cases hbig : 40 < n
  · have hbI : (40 : Int) < (n : Int) := by omega
    go_enter Try.func3, Try.ntmps3
    go_wp2_with fail
    refine (awake_any w).mono ?_
    rintro e w1 ⟨rfl, T1⟩
    go_wp2_with fail
    refine (awake_any w1).mono ?_
    rintro e w2 ⟨rfl, T2⟩
    go_wp2_with fail
    go_ret
    exact ⟨rfl, T1.trans T2 (fun _ _ => id)⟩
  · have hbI : ¬ ((40 : Int) < (n : Int)) := by omega
    obtain ⟨k, hk⟩ : ∃ k, nn % 6 = k := ⟨_, rfl⟩
    have hk6 : k ≤ 1000 := by omega
    have r1 : (nn : Int) % 6 = (k : Int) := by omega
    have r2 : Int.tmod (nn : Int) 6 = (k : Int) := by rw [Int.tmod_eq_emod_of_nonneg (by omega)]; exact r1
    have HK := Lib.hid hk
    clear hk
    go_enter Try.func3, Try.ntmps3
    go_wp2_with fail
    refine (awake_any w).mono ?_
    rintro e w2 ⟨rfl, T1⟩
    go_wp2_with fail
    refine (new_any k w2 (k : Int) (by omega)).mono ?_
    rintro e w3 ⟨F0, D, S0, sc0, rfl, hd3, hF3, T3⟩
    have hmk := run_make26 w3 k hk6
    obtain ⟨SB, hSB⟩ : ∃ SB, w3.heap.size = SB := ⟨_, rfl⟩
    obtain ⟨w4, hw4⟩ : ∃ w4, w3.alloc (.cells (List.replicate k (Value.slice none 0 0)).toArray 27) = w4 := ⟨_, rfl⟩
    have T4 : Turn (fun _ => False) w3 w4 := by rw [← hw4]; exact (Turn.refl _ w3).alloc _
    have HV4 := Lib.hid (show ValsIn w4 SB 27 (List.replicate k (Value.slice none 0 0)) by rw [← hw4, ← hSB]; exact heap_alloc_new w3 _)
    have HD4 := Lib.hid ((hd3.small).turn T4 (fun _ _ => id))
    have HF4 := Lib.hid (show ∀ q, Foot D S0 (.slice none 0 0) q → q < SB ∧ w2.heap.size ≤ q from fun q hq => ⟨by rw [← hSB]; exact hd3.foot_lt q hq, hF3 q (hd3.foot_in q hq)⟩)
    have HT4 := Lib.hid (T3.trans T4 (fun _ _ => id))
    have HSB := Lib.hid (show w2.heap.size ≤ SB by have := T3.size; omega)
    have HAC2 := Lib.hid (show ∀ i, i < n → ∃ g o pv a, av = some ⟨g, o, none⟩ ∧ ActAt w2 g o i pv a from fun i hi => by
      obtain ⟨g, o, pv, a, e, h⟩ := HAC.out i hi
      have hg : g < w.heap.size := World.block_lt_of_cell? w _ h.kind
      exact ⟨g, o, pv, a, e, ⟨(T1.cell (p := ⟨g, _, none⟩) hg id).trans h.kind, (T1.cell (p := ⟨g, _, none⟩) hg id).trans h.place, (T1.cell (p := ⟨g, _, none⟩) hg id).trans h.bytes, src_turn_pos h.src T1 (fun _ _ _ => id), h.ok, h.kOk, h.atOk, h.small, fun q h1 h2 => Nat.lt_of_lt_of_le (h.old q h1 h2) T1.size⟩⟩)
    rw [hw4, hSB] at hmk
    clear hd3 hF3 hw4 hSB T3 T4 HAC
    go_wp2_with fail
    refine plays_make k k SB _ _ _ _ _ _ _ _ _ _ _ _ _ _ _ _ _ _ _ _ _ _ _ _ _ _ _ _ _ _ _ _ _ _ _ _ _ _ _ _ _ _ _ _ _ _ _ _ _ _ _ _ _ _ _ _ _ _ _ _ _ _ _ _ _ _ _ _ _ _ _ _ _ _ _ _ _ _ _ _ _ _ _ _ _ _ _ _ _ _ _ _ _ _ _ _ _ _ _ _ _ _ _ _ _ _ _ _ _ _ _ _ _ _ _ _ _ _ _ _ _ _ _ _ _ _ _ _ _ _ _ _ _ _ _ _ _ _ _ _ _ _ _ _ _ _ _ _ _ _ _ _ _ _ _ _ _ _ _ _ _ _ _ _ _ _ _ _ _ _ _ _ _ _ _ _ _ _ _ _ _ _ _ _ _ _ _ _ _ _ _ _ _ _ _ _ _ _ _ _ _ _ _ _ _ _ _ _ _ _ _ _ _ _ _ _ _ _ _ _ _ _ _ _ _ _ _ _ _ _ _ _ _ _ _ _ _ _ _ _ _ _ _ _ _ _ _ _ _ _ _ _ _ _ _ _ _ _ _ _ _ _ _ _ _ _ _ _ _ _ _ _ _ _ _ _ _ _ _ _ _ _ _ _ _ _ _ _ _ _ _ _ _ _ _ _ _ _ _ _ _ _ _ _ _ hk6 HV4.out (by simp) ?_
    intro _ _ _ _ _ _ _ _ _ _ vs w5 hvl hvs hto hT5
    have hst : RSt w2 w5 D k SB (newM k) (Foot D S0 (.slice none 0 0)) (fun q => w4.heap.size ≤ q ∧ q < w5.heap.size) vs (.slice none 0 0) (.slice none 0 0) [] (newM k).safe (newM k).wet := by
      have hs4 := HT4.out.size
      have hs5 := hT5.size
      have hSl := HV4.out.lt
      refine ⟨⟨_, _, _, HD4.out.turn hT5 (fun q hq e => by have := (HF4.out q hq).1; omega)⟩, fun q hq => ⟨by have := (HF4.out q hq).1; omega, (HF4.out q hq).2⟩, HT4.out.trans hT5 (fun q hq e => by have := HSB.out; omega), fun q hq => ⟨hq.2, by omega, fun h => by have := (HF4.out q h).1; omega, by omega, (by intro e; cases e), (by intro e; cases e)⟩, by simp [newM], by simp [newM], hvs, hvl, ⟨HSB.out, fun h => by have := (HF4.out SB h).1; omega⟩, fun i hi => ?_, World.ownsRow_nil _ _ _ _, World.ownsRow_nil _ _ _ _, (fun j hj => by simp [newM] at hj), (fun j hj => by simp [newM] at hj), (fun q hq => by cases hq), (fun q hq => by cases hq)⟩
      obtain ⟨g9, c9, e1, e2, e3, e4, e5⟩ := hto i hi
      have es : (newM k).safe.getD i [] = noughts := by simp [newM, List.getD, hi]
      rw [es]
      exact ⟨g9, c9, e1, e2, ⟨e3, e4⟩, e4, e5⟩
    have HST0 := Lib.hid hst
    clear hst hvl hvs hto hT5
    go_wp2_with fail
    go_loopw [9, 10, 11, 12, 13, 14] (fun s9 s10 s11 s12 s13 s14 wr => ∃ (i : Nat) (d : DiskM) (F R : Nat → Prop) (vs us : List Value) (aa aw : Option Addr) (ca cw : Nat), i ≤ n ∧ s14 = .int .i64 (i : Int) ∧ s9 = .slice aa d.wet.length ca ∧ s10 = .slice aw d.wet.length cw ∧ s11 = .int .i64 (leftI d) ∧ s12 = .bool d.off ∧ s13 = .int .i64 (d.acts : Int) ∧ RSt w2 wr D k SB d F R vs (.slice aa d.wet.length ca) (.slice aw d.wet.length cw) us d.safe d.wet ∧ d.wet.length ≤ i ∧ d.acts ≤ i ∧ d.left ≤ 8) (fun _ _ _ _ _ s14 _ => n - (intOf s14).toNat)
    case atStart => exact ⟨0, newM k, _, _, _, _, none, none, 0, 0, Nat.zero_le _, rfl, rfl, rfl, rfl, rfl, rfl, HST0.out, Nat.le_refl _, Nat.le_refl _, by show 0 ≤ 8; omega⟩
    case round =>
      obtain ⟨i, d, F, R, vs, us, aa, aw, ca, cw, hi, rfl, rfl, rfl, rfl, rfl, rfl, hst, hb1, hb2, hl8⟩ := hrel
      have HST := Lib.hid hst
      clear hst
      by_cases hlt : i < n
      · obtain ⟨g, o, pv, ⟨K, At, ps⟩, ha, hat⟩ := HAC2.out i hlt
        subst ha
        obtain ⟨pa, pc, hpv, -⟩ := src_any hat.src
        dsimp only at hpv
        obtain ⟨L, hpsL⟩ : ∃ L, ps.length = L := ⟨_, rfl⟩
        rw [hpsL] at hpv
        subst hpv
        by_cases hL80 : L ≤ 80
        · by_cases q5 : K.toNat % 8 = 5
          · refine round_flush w2 g o n cp i D k SB k d.wet.length d.acts L pc ca cw aa aw pa K At ps (leftI d) d.off d F R vs us _ _ _ _ _ _ _ _ _ _ _ _ _ _ _ _ _ _ _ _ _ _ _ _ _ _ _ _ _ _ _ _ _ _ _ _ _ _ _ _ _ _ _ _ _ _ _ _ _ _ _ _ _ _ _ _ _ _ _ _ _ _ _ _ _ _ _ _ _ _ _ _ _ _ _ _ _ _ _ _ _ _ _ _ _ _ _ _ _ _ _ _ _ _ _ _ _ _ _ _ _ _ _ _ _ _ _ _ _ _ _ _ _ _ _ _ _ _ _ _ _ _ _ _ _ _ _ _ _ _ _ _ _ _ _ _ _ _ _ _ _ _ _ _ _ _ _ _ _ _ _ _ _ _ _ _ _ _ _ _ _ _ _ _ _ _ _ _ _ _ _ _ _ _ _ _ _ _ _ _ _ _ _ _ _ _ _ _ _ _ _ _ _ _ _ _ _ _ _ _ _ _ _ _ _ _ _ _ _ _ _ _ _ _ _ _ _ _ _ _ _ _ _ _ _ _ _ _ _ _ _ _ _ _ _ _ _ _ _ _ _ _ _ _ _ _ _ _ _ _ _ _ _ _ _ _ _ _ _ _ _ _ _ _ _ _ _ _ _ _ _ _ _ _ _ _ _ _ _ _ _ _ _ _ _ _ _ _ _ _ _ _ _ _ _ _ _ (fun e d v a w h => by cases d <;> exact h) hk6 (by omega) hlt hat hpsL hL80 q5 HST.out rfl (by omega) rfl (by omega) rfl hl8 rfl ?_
            intro _ _ _ _ _ _ _ _ _ _ _ _ _ _ _ _ _ _ _ _ _ _ _ _ _ _ _ _ _ _ _ _ _ _ _ _ _ _ _ _ _ _ _ _ _ _ _ _ _ _ _ _ _ _ _ _ _ _ _ _ _ _ _ _ _ _ _ _ _ _ _ _ _ _ _ _ _ _ _ _ _ _ _ _ _ _ _ _ _ _ _ _ _ _ _ _ _ _ _ _ _ _ _ _ _ _ _ _ _ _ _ _ _ _ _ _ _ _ _ _ _ _ _ _ _ _ _ _ _ _ _ _ _ _ _ _ _ _ _ _ _ _ _ _ _ _ _ _ _ _ _ _ _ _ _ _ _ _ _ _ _ _ _ _ _ _ _ _ _ _ _ _ _ _ _ _ _ _ _ _ _ _ _ _ _ _ _ _ _ _ _ _ _ _ _ _ _ _ _ _ _ _ _ _ _ _ _ _ _ _ _ _ _ _ _ _ _ _ _ _ _ _ _ _ _ _ _ _ _ _ _ _ _ _ _ _ _ _ _ _ _ _ _ _ _ _ _ _ _ _ _ _ _ _ _ _ _ _ _ _ _ _ _ _ _ _ _ d' F' R' vs' us' aa' aw' ca' cw' m' lf' of' cA' w' hst' hm' hb1 hb2 hb3 hlf' hof' hcA'
            have HST' := Lib.hid hst'
            have HX' := Lib.hid (And.intro hm' (And.intro hlf' (And.intro hof' hcA')))
            clear hst' hm' hlf' hof' hcA'
            go_wp2_with fail
            go_roundw
            case measure => simp [intOf]; omega
            case rel =>
              obtain ⟨rfl, rfl, rfl, rfl⟩ := HX'.out
              exact ⟨i + 1, d', F', R', vs', us', aa', aw', ca', cw', by omega, by go_num, rfl, rfl, rfl, rfl, rfl, HST'.out, by omega, by omega, hb3⟩
          · by_cases q6 : K.toNat % 8 = 6
            · refine round_arm w2 g o n cp i D k SB k d.wet.length d.acts L pc ca cw aa aw pa K At ps (leftI d) d.off d F R vs us _ _ _ _ _ _ _ _ _ _ _ _ _ _ _ _ _ _ _ _ _ _ _ _ _ _ _ _ _ _ _ _ _ _ _ _ _ _ _ _ _ _ _ _ _ _ _ _ _ _ _ _ _ _ _ _ _ _ _ _ _ _ _ _ _ _ _ _ _ _ _ _ _ _ _ _ _ _ _ _ _ _ _ _ _ _ _ _ _ _ _ _ _ _ _ _ _ _ _ _ _ _ _ _ _ _ _ _ _ _ _ _ _ _ _ _ _ _ _ _ _ _ _ _ _ _ _ _ _ _ _ _ _ _ _ _ _ _ _ _ _ _ _ _ _ _ _ _ _ _ _ _ _ _ _ _ _ _ _ _ _ _ _ _ _ _ _ _ _ _ _ _ _ _ _ _ _ _ _ _ _ _ _ _ _ _ _ _ _ _ _ _ _ _ _ _ _ _ _ _ _ _ _ _ _ _ _ _ _ _ _ _ _ _ _ _ _ _ _ _ _ _ _ _ _ _ _ _ _ _ _ _ _ _ _ _ _ _ _ _ _ _ _ _ _ _ _ _ _ _ _ _ _ _ _ _ _ _ _ _ _ _ _ _ _ _ _ _ _ _ _ _ _ _ _ _ _ _ _ _ _ _ _ _ _ _ _ _ _ _ _ _ _ _ _ _ _ (fun e d v a w h => by cases d <;> exact h) hk6 (by omega) hlt hat hpsL hL80 q6 HST.out rfl (by omega) rfl (by omega) rfl hl8 rfl ?_
              intro _ _ _ _ _ _ _ _ _ _ _ _ _ _ _ _ _ _ _ _ _ _ _ _ _ _ _ _ _ _ _ _ _ _ _ _ _ _ _ _ _ _ _ _ _ _ _ _ _ _ _ _ _ _ _ _ _ _ _ _ _ _ _ _ _ _ _ _ _ _ _ _ _ _ _ _ _ _ _ _ _ _ _ _ _ _ _ _ _ _ _ _ _ _ _ _ _ _ _ _ _ _ _ _ _ _ _ _ _ _ _ _ _ _ _ _ _ _ _ _ _ _ _ _ _ _ _ _ _ _ _ _ _ _ _ _ _ _ _ _ _ _ _ _ _ _ _ _ _ _ _ _ _ _ _ _ _ _ _ _ _ _ _ _ _ _ _ _ _ _ _ _ _ _ _ _ _ _ _ _ _ _ _ _ _ _ _ _ _ _ _ _ _ _ _ _ _ _ _ _ _ _ _ _ _ _ _ _ _ _ _ _ _ _ _ _ _ _ _ _ _ _ _ _ _ _ _ _ _ _ _ _ _ _ _ _ _ _ _ _ _ _ _ _ _ _ _ _ _ _ _ _ _ _ _ _ _ _ _ _ _ _ _ _ _ _ _ d' F' R' vs' us' aa' aw' ca' cw' m' lf' of' cA' w' hst' hm' hb1 hb2 hb3 hlf' hof' hcA'
              have HST' := Lib.hid hst'
              have HX' := Lib.hid (And.intro hm' (And.intro hlf' (And.intro hof' hcA')))
              clear hst' hm' hlf' hof' hcA'
              go_wp2_with fail
              go_roundw
              case measure => simp [intOf]; omega
              case rel =>
                obtain ⟨rfl, rfl, rfl, rfl⟩ := HX'.out
                exact ⟨i + 1, d', F', R', vs', us', aa', aw', ca', cw', by omega, by go_num, rfl, rfl, rfl, rfl, rfl, HST'.out, by omega, by omega, hb3⟩
            · by_cases q7 : K.toNat % 8 = 7
              · refine round_crash w2 g o n cp i D k SB k d.wet.length d.acts L pc ca cw aa aw pa K At ps (leftI d) d.off d F R vs us _ _ _ _ _ _ _ _ _ _ _ _ _ _ _ _ _ _ _ _ _ _ _ _ _ _ _ _ _ _ _ _ _ _ _ _ _ _ _ _ _ _ _ _ _ _ _ _ _ _ _ _ _ _ _ _ _ _ _ _ _ _ _ _ _ _ _ _ _ _ _ _ _ _ _ _ _ _ _ _ _ _ _ _ _ _ _ _ _ _ _ _ _ _ _ _ _ _ _ _ _ _ _ _ _ _ _ _ _ _ _ _ _ _ _ _ _ _ _ _ _ _ _ _ _ _ _ _ _ _ _ _ _ _ _ _ _ _ _ _ _ _ _ _ _ _ _ _ _ _ _ _ _ _ _ _ _ _ _ _ _ _ _ _ _ _ _ _ _ _ _ _ _ _ _ _ _ _ _ _ _ _ _ _ _ _ _ _ _ _ _ _ _ _ _ _ _ _ _ _ _ _ _ _ _ _ _ _ _ _ _ _ _ _ _ _ _ _ _ _ _ _ _ _ _ _ _ _ _ _ _ _ _ _ _ _ _ _ _ _ _ _ _ _ _ _ _ _ _ _ _ _ _ _ _ _ _ _ _ _ _ _ _ _ _ _ _ _ _ _ _ _ _ _ _ _ _ _ _ _ _ _ _ _ _ _ _ _ _ _ _ _ _ _ _ _ _ (fun e d v a w h => by cases d <;> exact h) hk6 (by omega) hlt hat hpsL hL80 q7 HST.out rfl (by omega) rfl (by omega) rfl hl8 rfl ?_
                intro _ _ _ _ _ _ _ _ _ _ _ _ _ _ _ _ _ _ _ _ _ _ _ _ _ _ _ _ _ _ _ _ _ _ _ _ _ _ _ _ _ _ _ _ _ _ _ _ _ _ _ _ _ _ _ _ _ _ _ _ _ _ _ _ _ _ _ _ _ _ _ _ _ _ _ _ _ _ _ _ _ _ _ _ _ _ _ _ _ _ _ _ _ _ _ _ _ _ _ _ _ _ _ _ _ _ _ _ _ _ _ _ _ _ _ _ _ _ _ _ _ _ _ _ _ _ _ _ _ _ _ _ _ _ _ _ _ _ _ _ _ _ _ _ _ _ _ _ _ _ _ _ _ _ _ _ _ _ _ _ _ _ _ _ _ _ _ _ _ _ _ _ _ _ _ _ _ _ _ _ _ _ _ _ _ _ _ _ _ _ _ _ _ _ _ _ _ _ _ _ _ _ _ _ _ _ _ _ _ _ _ _ _ _ _ _ _ _ _ _ _ _ _ _ _ _ _ _ _ _ _ _ _ _ _ _ _ _ _ _ _ _ _ _ _ _ _ _ _ _ _ _ _ _ _ _ _ _ _ _ _ _ _ _ _ _ _ d' F' R' vs' us' aa' aw' ca' cw' m' lf' of' cA' w' hst' hm' hb1 hb2 hb3 hlf' hof' hcA'
                have HST' := Lib.hid hst'
                have HX' := Lib.hid (And.intro hm' (And.intro hlf' (And.intro hof' hcA')))
                clear hst' hm' hlf' hof' hcA'
                go_wp2_with fail
                go_roundw
                case measure => simp [intOf]; omega
                case rel =>
                  obtain ⟨rfl, rfl, rfl, rfl⟩ := HX'.out
                  exact ⟨i + 1, d', F', R', vs', us', aa', aw', ca', cw', by omega, by go_num, rfl, rfl, rfl, rfl, rfl, HST'.out, by omega, by omega, hb3⟩
              · by_cases hbad : At < 0 ∨ (k : Int) ≤ At ∨ 64 < L ∨ d.off = true
                · refine round_write0 w2 g o n cp i D k SB k d.wet.length d.acts L pc ca cw aa aw pa K At ps (leftI d) d.off d F R vs us _ _ _ _ _ _ _ _ _ _ _ _ _ _ _ _ _ _ _ _ _ _ _ _ _ _ _ _ _ _ _ _ _ _ _ _ _ _ _ _ _ _ _ _ _ _ _ _ _ _ _ _ _ _ _ _ _ _ _ _ _ _ _ _ _ _ _ _ _ _ _ _ _ _ _ _ _ _ _ _ _ _ _ _ _ _ _ _ _ _ _ _ _ _ _ _ _ _ _ _ _ _ _ _ _ _ _ _ _ _ _ _ _ _ _ _ _ _ _ _ _ _ _ _ _ _ _ _ _ _ _ _ _ _ _ _ _ _ _ _ _ _ _ _ _ _ _ _ _ _ _ _ _ _ _ _ _ _ _ _ _ _ _ _ _ _ _ _ _ _ _ _ _ _ _ _ _ _ _ _ _ _ _ _ _ _ _ _ _ _ _ _ _ _ _ _ _ _ _ _ _ _ _ _ _ _ _ _ _ _ _ _ _ _ _ _ _ _ _ _ _ _ _ _ _ _ _ _ _ _ _ _ _ _ _ _ _ _ _ _ _ _ _ _ _ _ _ _ _ _ _ _ _ _ _ _ _ _ _ _ _ _ _ _ _ _ _ _ _ _ _ _ _ _ _ _ _ _ _ _ _ _ _ _ _ _ _ _ _ _ _ _ _ _ _ _ _ (fun e d v a w h => by cases d <;> exact h) hk6 (by omega) hlt hat hpsL hL80 (by omega) hbad HST.out rfl (by omega) rfl (by omega) rfl hl8 rfl ?_
                  intro _ _ _ _ _ _ _ _ _ _ _ _ _ _ _ _ _ _ _ _ _ _ _ _ _ _ _ _ _ _ _ _ _ _ _ _ _ _ _ _ _ _ _ _ _ _ _ _ _ _ _ _ _ _ _ _ _ _ _ _ _ _ _ _ _ _ _ _ _ _ _ _ _ _ _ _ _ _ _ _ _ _ _ _ _ _ _ _ _ _ _ _ _ _ _ _ _ _ _ _ _ _ _ _ _ _ _ _ _ _ _ _ _ _ _ _ _ _ _ _ _ _ _ _ _ _ _ _ _ _ _ _ _ _ _ _ _ _ _ _ _ _ _ _ _ _ _ _ _ _ _ _ _ _ _ _ _ _ _ _ _ _ _ _ _ _ _ _ _ _ _ _ _ _ _ _ _ _ _ _ _ _ _ _ _ _ _ _ _ _ _ _ _ _ _ _ _ _ _ _ _ _ _ _ _ _ _ _ _ _ _ _ _ _ _ _ _ _ _ _ _ _ _ _ _ _ _ _ _ _ _ _ _ _ _ _ _ _ _ _ _ _ _ _ _ _ _ _ _ _ _ _ _ _ _ _ _ _ _ _ _ _ _ _ _ _ _ d' F' R' vs' us' aa' aw' ca' cw' m' lf' of' cA' w' hst' hm' hb1 hb2 hb3 hlf' hof' hcA'
                  have HST' := Lib.hid hst'
                  have HX' := Lib.hid (And.intro hm' (And.intro hlf' (And.intro hof' hcA')))
                  clear hst' hm' hlf' hof' hcA'
                  go_wp2_with fail
                  go_roundw
                  case measure => simp [intOf]; omega
                  case rel =>
                    obtain ⟨rfl, rfl, rfl, rfl⟩ := HX'.out
                    exact ⟨i + 1, d', F', R', vs', us', aa', aw', ca', cw', by omega, by go_num, rfl, rfl, rfl, rfl, rfl, HST'.out, by omega, by omega, hb3⟩
                · have b1 : 0 ≤ At := Int.not_lt.1 (fun h => hbad (.inl h))
                  have b2 : At < (k : Int) := Int.not_le.1 (fun h => hbad (.inr (.inl h)))
                  have b3 : L ≤ 64 := Nat.not_lt.1 (fun h => hbad (.inr (.inr (.inl h))))
                  have b4 : d.off = false := Bool.eq_false_iff.2 (fun h => hbad (.inr (.inr (.inr h))))
                  clear hbad
                  by_cases b5 : d.armed = true
                  · by_cases b6 : d.left = 0
                    · refine round_write2 w2 g o n cp i D k SB k d.wet.length d.acts L pc ca cw aa aw pa K At ps (leftI d) d.off d F R vs us _ _ _ _ _ _ _ _ _ _ _ _ _ _ _ _ _ _ _ _ _ _ _ _ _ _ _ _ _ _ _ _ _ _ _ _ _ _ _ _ _ _ _ _ _ _ _ _ _ _ _ _ _ _ _ _ _ _ _ _ _ _ _ _ _ _ _ _ _ _ _ _ _ _ _ _ _ _ _ _ _ _ _ _ _ _ _ _ _ _ _ _ _ _ _ _ _ _ _ _ _ _ _ _ _ _ _ _ _ _ _ _ _ _ _ _ _ _ _ _ _ _ _ _ _ _ _ _ _ _ _ _ _ _ _ _ _ _ _ _ _ _ _ _ _ _ _ _ _ _ _ _ _ _ _ _ _ _ _ _ _ _ _ _ _ _ _ _ _ _ _ _ _ _ _ _ _ _ _ _ _ _ _ _ _ _ _ _ _ _ _ _ _ _ _ _ _ _ _ _ _ _ _ _ _ _ _ _ _ _ _ _ _ _ _ _ _ _ _ _ _ _ _ _ _ _ _ _ _ _ _ _ _ _ _ _ _ _ _ _ _ _ _ _ _ _ _ _ _ _ _ _ _ _ _ _ _ _ _ _ _ _ _ _ _ _ _ _ _ _ _ _ _ _ _ _ _ _ _ _ _ _ _ _ _ _ _ _ _ _ _ _ _ _ _ _ _ (fun e d v a w h => by cases d <;> exact h) hk6 (by omega) hlt hat hpsL hL80 (by omega) b1 b2 b3 b4 ⟨b5, b6⟩ HST.out rfl (by omega) rfl (by omega) rfl hl8 rfl ?_
                      intro _ _ _ _ _ _ _ _ _ _ _ _ _ _ _ _ _ _ _ _ _ _ _ _ _ _ _ _ _ _ _ _ _ _ _ _ _ _ _ _ _ _ _ _ _ _ _ _ _ _ _ _ _ _ _ _ _ _ _ _ _ _ _ _ _ _ _ _ _ _ _ _ _ _ _ _ _ _ _ _ _ _ _ _ _ _ _ _ _ _ _ _ _ _ _ _ _ _ _ _ _ _ _ _ _ _ _ _ _ _ _ _ _ _ _ _ _ _ _ _ _ _ _ _ _ _ _ _ _ _ _ _ _ _ _ _ _ _ _ _ _ _ _ _ _ _ _ _ _ _ _ _ _ _ _ _ _ _ _ _ _ _ _ _ _ _ _ _ _ _ _ _ _ _ _ _ _ _ _ _ _ _ _ _ _ _ _ _ _ _ _ _ _ _ _ _ _ _ _ _ _ _ _ _ _ _ _ _ _ _ _ _ _ _ _ _ _ _ _ _ _ _ _ _ _ _ _ _ _ _ _ _ _ _ _ _ _ _ _ _ _ _ _ _ _ _ _ _ _ _ _ _ _ _ _ _ _ _ _ _ _ _ _ _ _ _ _ d' F' R' vs' us' aa' aw' ca' cw' m' lf' of' cA' w' hst' hm' hb1 hb2 hb3 hlf' hof' hcA'
                      have HST' := Lib.hid hst'
                      have HX' := Lib.hid (And.intro hm' (And.intro hlf' (And.intro hof' hcA')))
                      clear hst' hm' hlf' hof' hcA'
                      go_wp2_with fail
                      go_roundw
                      case measure => simp [intOf]; omega
                      case rel =>
                        obtain ⟨rfl, rfl, rfl, rfl⟩ := HX'.out
                        exact ⟨i + 1, d', F', R', vs', us', aa', aw', ca', cw', by omega, by go_num, rfl, rfl, rfl, rfl, rfl, HST'.out, by omega, by omega, hb3⟩
                    · refine round_write3 w2 g o n cp i D k SB k d.wet.length d.acts L pc ca cw aa aw pa K At ps (leftI d) d.off d F R vs us _ _ _ _ _ _ _ _ _ _ _ _ _ _ _ _ _ _ _ _ _ _ _ _ _ _ _ _ _ _ _ _ _ _ _ _ _ _ _ _ _ _ _ _ _ _ _ _ _ _ _ _ _ _ _ _ _ _ _ _ _ _ _ _ _ _ _ _ _ _ _ _ _ _ _ _ _ _ _ _ _ _ _ _ _ _ _ _ _ _ _ _ _ _ _ _ _ _ _ _ _ _ _ _ _ _ _ _ _ _ _ _ _ _ _ _ _ _ _ _ _ _ _ _ _ _ _ _ _ _ _ _ _ _ _ _ _ _ _ _ _ _ _ _ _ _ _ _ _ _ _ _ _ _ _ _ _ _ _ _ _ _ _ _ _ _ _ _ _ _ _ _ _ _ _ _ _ _ _ _ _ _ _ _ _ _ _ _ _ _ _ _ _ _ _ _ _ _ _ _ _ _ _ _ _ _ _ _ _ _ _ _ _ _ _ _ _ _ _ _ _ _ _ _ _ _ _ _ _ _ _ _ _ _ _ _ _ _ _ _ _ _ _ _ _ _ _ _ _ _ _ _ _ _ _ _ _ _ _ _ _ _ _ _ _ _ _ _ _ _ _ _ _ _ _ _ _ _ _ _ _ _ _ _ _ _ _ _ _ _ _ _ _ _ _ _ _ (fun e d v a w h => by cases d <;> exact h) hk6 (by omega) hlt hat hpsL hL80 (by omega) b1 b2 b3 b4 ⟨b5, b6⟩ HST.out rfl (by omega) rfl (by omega) rfl hl8 rfl ?_
                      intro _ _ _ _ _ _ _ _ _ _ _ _ _ _ _ _ _ _ _ _ _ _ _ _ _ _ _ _ _ _ _ _ _ _ _ _ _ _ _ _ _ _ _ _ _ _ _ _ _ _ _ _ _ _ _ _ _ _ _ _ _ _ _ _ _ _ _ _ _ _ _ _ _ _ _ _ _ _ _ _ _ _ _ _ _ _ _ _ _ _ _ _ _ _ _ _ _ _ _ _ _ _ _ _ _ _ _ _ _ _ _ _ _ _ _ _ _ _ _ _ _ _ _ _ _ _ _ _ _ _ _ _ _ _ _ _ _ _ _ _ _ _ _ _ _ _ _ _ _ _ _ _ _ _ _ _ _ _ _ _ _ _ _ _ _ _ _ _ _ _ _ _ _ _ _ _ _ _ _ _ _ _ _ _ _ _ _ _ _ _ _ _ _ _ _ _ _ _ _ _ _ _ _ _ _ _ _ _ _ _ _ _ _ _ _ _ _ _ _ _ _ _ _ _ _ _ _ _ _ _ _ _ _ _ _ _ _ _ _ _ _ _ _ _ _ _ _ _ _ _ _ _ _ _ _ _ _ _ _ _ _ _ _ _ _ _ _ d' F' R' vs' us' aa' aw' ca' cw' m' lf' of' cA' w' hst' hm' hb1 hb2 hb3 hlf' hof' hcA'
                      have HST' := Lib.hid hst'
                      have HX' := Lib.hid (And.intro hm' (And.intro hlf' (And.intro hof' hcA')))
                      clear hst' hm' hlf' hof' hcA'
                      go_wp2_with fail
                      go_roundw
                      case measure => simp [intOf]; omega
                      case rel =>
                        obtain ⟨rfl, rfl, rfl, rfl⟩ := HX'.out
                        exact ⟨i + 1, d', F', R', vs', us', aa', aw', ca', cw', by omega, by go_num, rfl, rfl, rfl, rfl, rfl, HST'.out, by omega, by omega, hb3⟩
                  · refine round_write1 w2 g o n cp i D k SB k d.wet.length d.acts L pc ca cw aa aw pa K At ps (leftI d) d.off d F R vs us _ _ _ _ _ _ _ _ _ _ _ _ _ _ _ _ _ _ _ _ _ _ _ _ _ _ _ _ _ _ _ _ _ _ _ _ _ _ _ _ _ _ _ _ _ _ _ _ _ _ _ _ _ _ _ _ _ _ _ _ _ _ _ _ _ _ _ _ _ _ _ _ _ _ _ _ _ _ _ _ _ _ _ _ _ _ _ _ _ _ _ _ _ _ _ _ _ _ _ _ _ _ _ _ _ _ _ _ _ _ _ _ _ _ _ _ _ _ _ _ _ _ _ _ _ _ _ _ _ _ _ _ _ _ _ _ _ _ _ _ _ _ _ _ _ _ _ _ _ _ _ _ _ _ _ _ _ _ _ _ _ _ _ _ _ _ _ _ _ _ _ _ _ _ _ _ _ _ _ _ _ _ _ _ _ _ _ _ _ _ _ _ _ _ _ _ _ _ _ _ _ _ _ _ _ _ _ _ _ _ _ _ _ _ _ _ _ _ _ _ _ _ _ _ _ _ _ _ _ _ _ _ _ _ _ _ _ _ _ _ _ _ _ _ _ _ _ _ _ _ _ _ _ _ _ _ _ _ _ _ _ _ _ _ _ _ _ _ _ _ _ _ _ _ _ _ _ _ _ _ _ _ _ _ _ _ _ _ _ _ _ _ _ _ _ _ _ (fun e d v a w h => by cases d <;> exact h) hk6 (by omega) hlt hat hpsL hL80 (by omega) b1 b2 b3 b4 (Bool.eq_false_iff.2 b5) HST.out rfl (by omega) rfl (by omega) rfl hl8 rfl ?_
                    intro _ _ _ _ _ _ _ _ _ _ _ _ _ _ _ _ _ _ _ _ _ _ _ _ _ _ _ _ _ _ _ _ _ _ _ _ _ _ _ _ _ _ _ _ _ _ _ _ _ _ _ _ _ _ _ _ _ _ _ _ _ _ _ _ _ _ _ _ _ _ _ _ _ _ _ _ _ _ _ _ _ _ _ _ _ _ _ _ _ _ _ _ _ _ _ _ _ _ _ _ _ _ _ _ _ _ _ _ _ _ _ _ _ _ _ _ _ _ _ _ _ _ _ _ _ _ _ _ _ _ _ _ _ _ _ _ _ _ _ _ _ _ _ _ _ _ _ _ _ _ _ _ _ _ _ _ _ _ _ _ _ _ _ _ _ _ _ _ _ _ _ _ _ _ _ _ _ _ _ _ _ _ _ _ _ _ _ _ _ _ _ _ _ _ _ _ _ _ _ _ _ _ _ _ _ _ _ _ _ _ _ _ _ _ _ _ _ _ _ _ _ _ _ _ _ _ _ _ _ _ _ _ _ _ _ _ _ _ _ _ _ _ _ _ _ _ _ _ _ _ _ _ _ _ _ _ _ _ _ _ _ _ _ _ _ _ _ d' F' R' vs' us' aa' aw' ca' cw' m' lf' of' cA' w' hst' hm' hb1 hb2 hb3 hlf' hof' hcA'
                    have HST' := Lib.hid hst'
                    have HX' := Lib.hid (And.intro hm' (And.intro hlf' (And.intro hof' hcA')))
                    clear hst' hm' hlf' hof' hcA'
                    go_wp2_with fail
                    go_roundw
                    case measure => simp [intOf]; omega
                    case rel =>
                      obtain ⟨rfl, rfl, rfl, rfl⟩ := HX'.out
                      exact ⟨i + 1, d', F', R', vs', us', aa', aw', ca', cw', by omega, by go_num, rfl, rfl, rfl, rfl, rfl, HST'.out, by omega, by omega, hb3⟩
        · have hg0 : g < w2.heap.size := World.block_lt_of_cell? w2 _ hat.kind
          have a0 : wr.cell? ⟨g, o + i * 3, none⟩ = some (.int .u8 K) := (HST.out.turn.cell (p := ⟨g, _, none⟩) hg0 id).trans hat.kind
          have a1 : wr.cell? ⟨g, o + i * 3 + 1, none⟩ = some (.int .i64 At) := (HST.out.turn.cell (p := ⟨g, _, none⟩) hg0 id).trans hat.place
          have a2 : wr.cell? ⟨g, o + i * 3 + 2, none⟩ = some (.slice pa L pc) := (HST.out.turn.cell (p := ⟨g, _, none⟩) hg0 id).trans hat.bytes
          have hI : (i : Int) < (n : Int) := by omega
          have hLI : (80 : Int) < (L : Int) := by omega
          clear hat
          go_wp2_with fail
          go_ret
          exact ⟨rfl, (T1.trans HST.out.turn (fun _ _ => id)).alloc _⟩
      · obtain rfl : i = n := by omega
        have hI : ¬ ((i : Int) < (i : Int)) := by omega
        go_wp2_with fail
        go_ret
        exact ⟨rfl, T1.trans HST.out.turn (fun _ _ => id)⟩
end Go.Proofs.Ytckeackepolhdaa
