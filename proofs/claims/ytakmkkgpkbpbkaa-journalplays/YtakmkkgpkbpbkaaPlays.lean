/- Own: the walk of JournalPlays. -/
import Derived.Test.YtakmkkgpkbpbkaaMs
import Derived.Test.YtakmkkgpkbpbkaaActs
namespace Go.Proofs.Ytakmkkgpkbpbkaa
open Go.RowKit
set_option linter.unusedVariables false
set_option linter.unusedSimpArgs false

/-- A block that is not of the disk. -/
structure BX (w : World) (G : Nat → Prop) (AB : Nat) (o : Obj) : Prop where
  bx : w.heap[AB]? = some o
  bok : ¬ G AB
theorem BX.lt {w : World} {G : Nat → Prop} {AB : Nat} {o : Obj} (h : BX w G AB o) : AB < w.heap.size := (Array.getElem?_eq_some_iff.1 h.bx).1
theorem BX.go {w w' : World} {G G' : Nat → Prop} {AB : Nat} {o : Obj} (h : BX w G AB o) (hg : ∀ q, G' q → G q ∨ w.heap.size ≤ q) (T : Turn G w w') : BX w' G' AB o :=
  ⟨(T.block AB h.lt h.bok).trans h.bx, fun h3 => by
    rcases hg AB h3 with h1 | h1
    · exact h.bok h1
    · have := h.lt; omega⟩
theorem BX.turn0 {w w' : World} {G : Nat → Prop} {AB : Nat} {o : Obj} (h : BX w G AB o) (T : Turn (fun _ => False) w w') : BX w' G AB o := h.go (fun _ h => .inl h) (T.mono (fun _ _ h => h.elim))
theorem grown_j {w w' : World} {F F' : Nat → Prop} {J : Nat} (h : ∀ k, F' k → F k ∨ w.heap.size ≤ k) : ∀ q, (F' q ∨ q = J) → (F q ∨ q = J) ∨ w.heap.size ≤ q := fun q hq => by
  rcases hq with hq | hq
  · rcases h q hq with h1 | h1
    · exact .inl (.inl h1)
    · exact .inr h1
  · exact .inl (.inr hq)
theorem run_make64j (w : World) : (Instr.makeSlice 31 (.int .i64 64) (.int .i64 64)).run Try.prog w = .ok (.slice (some ⟨w.heap.size, 0, none⟩) 64 64) (w.alloc (.cells (secV noughts).toArray 5)) := by
  obtain ⟨i0, hi, hz0, hz1, hz2⟩ := info_parts Try.info5
  have h := run_make (P := Try.prog) w 31 5 i0 _ Try.underlying31 hi hz0 .i64 .i64 64 64 (by omega) (by omega) (by rw [hz2]; decide) (by omega)
  have e : madeCells (Value.int .u8 0).cells (Int.toNat 64 * 1) = (secV noughts).toArray := by kernel_rfl
  rw [h, hz1, e]
  rfl
theorem rep12 (a : Nat) (ha : a < 12) : (List.replicate (61 - 49) noughts).getD a [] = noughts := by
  rw [List.getD, List.getElem?_replicate, if_pos (by omega)]; rfl

set_option maxHeartbeats 8000000 in
set_option maxRecDepth 1000000 in
theorem plays_walk (w : World) (v : Value) (n : Nat) (ag0 : Nat) (hag : ag0 < 256) (hv : ActsIn w v n) (hn : n ≤ 15) :
    Calls Try.prog 3 #[v, .int .u8 (ag0 : Int)] w (AwakePost w) := by
  obtain ⟨av, cv, rfl, hmx, hacts⟩ := hv
  have HAC := Lib.hid hacts
  clear hacts hmx
  have g1 : decide ((15 : Int) < (n : Int)) = false := by simp; omega
  have g2 : decide (15 < n) = false := by simp; omega
  obtain ⟨i0, hi0, hz0, hz1, hz2⟩ := info_parts Try.info31
  obtain ⟨ag, hag1⟩ : ∃ ag, ag0 % 14 = ag := ⟨_, rfl⟩
  have hag2 : ag < 14 := by omega
  have hag3 : ((ag0 : Int)).tmod 14 = (ag : Int) := by rw [Int.tmod_eq_emod_of_nonneg (by omega)]; omega
  clear hag1
  go_enter Try.func3, Try.ntmps3
  go_wp2_with fail
  refine (awake_any w).mono ?_
  rintro e w1 ⟨rfl, t1⟩
  go_wp2_with fail
  refine (new_h w1 61 100000 (by omega) (by omega)).mono ?_
  rintro e w2 ⟨D, F2, rfl, hd2, hF2, t2⟩
  have HD2 := Lib.hid hd2
  clear hd2
  go_wp2_with fail
  refine (open_h w2 F2 D (newM 61) 0 _ 99900 HD2.out rfl (by omega)).mono ?_
  rintro e w3 ⟨J3, F3, d3, L3, rfl, hj3, ha3, hJ3, hs3, hL3⟩
  have HT3 := Lib.hid (show Turn (fun _ => False) w w3 from ((t1.trans t2 (fun _ _ => id))).trans hs3.turn (fun q hq h => by have := hF2 q h; have := t1.size; omega))
  have HF3 := Lib.hid (show ∀ q, F3 q → w.heap.size ≤ q ∧ q < w3.heap.size from fun q hq => ⟨by
    have := t1.size; have := t2.size
    rcases hs3.grown q hq with h | h
    · have := hF2 q h; omega
    · omega, hj3.jh.dh.2 q hq⟩)
  have HJ3 := Lib.hid hj3
  have HA3 := Lib.hid ha3
  have hJw : w.heap.size ≤ J3 := by have := t1.size; have := t2.size; omega
  have hJlt := hj3.jh.jat.lt
  clear hj3 ha3 hs3 hF2 t1 t2 hJ3 hL3
  go_wp2_with fail
  go_loopw [8, 9] (fun mv iv wr => ∃ k : Nat, k ≤ 12 ∧ iv = .int .i64 (k : Int) ∧ ∃ bs : List Nat, bs.length = k ∧ wr.ownsRow w3.heap.size 31 1 mv k (bs.map bv) ∧ (∀ (i B : Nat), bs[i]? = some B → wr.rangeAt B 0 (secV noughts) ∧ B < wr.heap.size ∧ w3.heap.size ≤ B ∧ mv.ownBlock ≠ some B) ∧ Turn (fun _ => False) w3 wr) (fun _ iv _ => (12 - intOf iv).toNat)
  case atStart => exact ⟨0, Nat.zero_le _, rfl, [], rfl, World.ownsRow_nil _ _ _ _, fun i B h => by simp at h, Turn.refl _ _⟩
  case round =>
    obtain ⟨j, hj, rfl, bs, hbl, ho, hbs, tr⟩ := hrel
    have HO := Lib.hid ho
    have HBS := Lib.hid hbs
    have HBL := Lib.hid hbl
    clear ho hbs hbl
    by_cases hlt : j < 12
    · have hmk := run_make64j wr
      have t2 : Turn (fun _ => False) wr (wr.alloc (.cells (secV noughts).toArray 5)) := (Turn.refl _ wr).alloc _
      have hb1 : (wr.alloc (.cells (secV noughts).toArray 5)).heap[wr.heap.size]? = some (.cells (secV noughts).toArray 5) := heap_alloc_new wr _
      obtain ⟨w2', hw2⟩ : ∃ w2', wr.alloc (.cells (secV noughts).toArray 5) = w2' := ⟨_, rfl⟩
      obtain ⟨B, hBB⟩ : ∃ B, wr.heap.size = B := ⟨_, rfl⟩
      rw [hw2, hBB] at hmk
      rw [hw2] at t2
      rw [hw2, hBB] at hb1
      have hB : w3.heap.size ≤ B := by have := tr.size; omega
      have hBl : B < w2'.heap.size := (Array.getElem?_eq_some_iff.1 hb1).1
      have hr : w2'.rangeAt B 0 (secV noughts) := fun j v hj => by rw [Nat.zero_add, cell_of_row _ _ _ _ 5 (0, 0) hb1]; simpa using hj
      have ho2 := t2.owns HO.out (fun _ _ => id)
      have HO2 := Lib.hid (((Turn.refl (fun _ => False) w2').alloc (.cells #[bv B] 31)).owns ho2 (fun _ _ => id))
      have HRB := Lib.hid hr
      have hnew := heap_alloc_new w2' (.cells #[bv B] 31)
      have hnews : ∀ (k : Nat) u, [bv B][k]? = some u → (w2'.alloc (.cells #[bv B] 31)).cell? ((⟨w2'.heap.size, 0, none⟩ : Addr).add k) = some u := by
        intro k u hk
        rw [Addr.add_mid, cell_of_row _ _ _ _ 31 (0, 0) hnew]
        match k, hk with
        | 0, hk => simpa using hk
      have HNW := Lib.hid hnews
      have HBB := Lib.hid hBB
      clear ho2 hr hnew hnews hb1 hw2 hBB
      go_wp2_with (at_builtin; refine wpList_append_where _ rfl (.tmp 38) (.tmp 40) 30 rfl w3.heap.size 31 i0 (.slice none 0 0) 1 24 Try.underlying30 hi0 hz0 hz1 hz2 rfl (by decide) _ j (bs.map bv) rfl HO2.out ⟨w2'.heap.size, 0, none⟩ 1 1 [bv B] rfl rfl HNW.out (fun u hu => by simp at hu; subst hu; rfl) ?d3 ?d4 ?d5 ?_)
      case d3 => unfold maxLen; omega
      case d4 => omega
      case d5 => have h1 := tr.size; have h2 := t2.size; simp; omega
      intro v3 w3' ho3 hg3 hfr _
      have t3 : Turn (fun q => u8.ownBlock = some q) w2' w3' := ((Turn.refl (fun q => u8.ownBlock = some q) w2').alloc (.cells #[bv B] 31)).grown hg3 (fun k h _ => h)
      have T3 : Turn (fun _ => False) w3 w3' := (tr.trans t2 (fun _ _ => id)).trans t3 (fun q hq h => by have := (HO.out.lt q h).1; omega)
      have HO3 := Lib.hid ho3
      clear ho3
      go_wp2_with fail
      go_roundw
      case rel =>
        refine ⟨j + 1, by omega, by go_num, bs ++ [B], by simp [HBL.out], by simpa using HO3.out, ?_, T3⟩
        intro i B' hi'
        have hs2 := t2.size
        have hs3 := t3.size
        have hBB := HBB.out
        have hfr' : ∀ q, q < w2'.heap.size → u8.ownBlock ≠ some q → v3.ownBlock ≠ some q := fun q hq hn hv => hn (hfr.old hv (by simp; omega))
        rcases Nat.lt_or_ge i j with hij | hij
        · rw [List.getElem?_append_left (by have := HBL.out; omega)] at hi'
          obtain ⟨a1, a2, a4, a3⟩ := HBS.out i B' hi'
          exact ⟨rangeAt_turn (rangeAt_turn a1 t2 id) t3 a3, by omega, a4, hfr' B' (by omega) a3⟩
        · rw [List.getElem?_append_right (by have := HBL.out; omega)] at hi'
          have hij' : i = j := by
            have := (List.getElem?_eq_some_iff.1 hi').1
            simp at this
            have := HBL.out; omega
          subst hij'
          rw [HBL.out] at hi'
          simp at hi'
          subst hi'
          have hnb : u8.ownBlock ≠ some B := fun hh => by have := (HO.out.lt B hh).2; omega
          exact ⟨rangeAt_turn HRB.out t3 hnb, by omega, hB, hfr' B hBl hnb⟩
      case measure => simp [intOf]; omega
    · have hj12 : j = 12 := by omega
      have hform : ∃ g c, u8 = .slice (some ⟨g, 0, none⟩) 12 c ∧ 12 ≤ c := by
        rcases HO.out.2 with ⟨_, h0⟩ | ⟨g, cap, cur, h1, _, _, h2, _⟩
        · omega
        · exact ⟨g, cap, by rw [h1, hj12], by omega⟩
      obtain ⟨g0, c0, rfl, hc0⟩ := hform
      have hO12 := HO.out
      rw [hj12] at hO12
      have hg0 := hO12.lt g0 rfl
      have HMS := Lib.hid (show MS w wr (fun q => F3 q ∨ q = J3) (fun q => w3.heap.size ≤ q ∧ q < wr.heap.size) (fun _ => False) g0 (bs.map bv) (List.replicate (61 - 49) noughts) (.slice none 0 0) [] from
        { foot := fun q hq => by
            rcases hq with hq | hq
            · exact (HF3.out q hq).1
            · omega
          turn := HT3.out.trans tr (fun _ _ => id)
          m := ⟨by simp [HBL.out]; omega, fun j hj => by
            have hj' : j < 12 := by simpa using hj
            obtain ⟨B, hB⟩ : ∃ B, bs[j]? = some B := ⟨_, List.getElem?_eq_getElem (by rw [HBL.out]; omega)⟩
            rw [hO12.cellAt j (by omega)]
            simp [List.getD, hB, bv], fun j hj => by
            have hj' : j < 12 := by simpa using hj
            obtain ⟨B, hB⟩ : ∃ B, bs[j]? = some B := ⟨_, List.getElem?_eq_getElem (by rw [HBL.out]; omega)⟩
            obtain ⟨a1, a2, a3, a4⟩ := HBS.out j B hB
            rw [rep12 j hj']
            refine ⟨B, 64, by simp [List.getD, hB, bv], Nat.le_refl _, ⟨a3, a2⟩, a2, a1⟩⟩
          rok := fun q hq => ⟨hq.2, fun h => by
            rcases h with h | h
            · have := (HF3.out q h).2; omega
            · omega⟩
          gok := ⟨hg0.2, fun h => by
            rcases h with h | h
            · have := (HF3.out g0 h).2; omega
            · omega⟩
          len := by simp
          mok := fun j hj => by rw [rep12 j hj]; exact ⟨rfl, fun x hx => by unfold noughts at hx; rw [List.eq_of_mem_replicate hx]; omega⟩
          pg := .inl ⟨rfl, rfl⟩
          pok := fun _ h => h.elim
          lfit := rfl
          lok := fun x hx => by simp at hx
          llen := by simp })
      have HJ4 := Lib.hid (HJ3.out.turn0 tr)
      have HJN3 := Lib.hid hJw
      have hjI : ¬ ((j : Int) < 12) := by omega
      have HJ12 := Lib.hid hj12
      clear tr hg0 hc0 hO12 HBS HO HBL HF3 HT3 HJ3 hJw hJlt hj12 hj hlt
      obtain ⟨ws, hws⟩ : ∃ ws, ws = wr := ⟨_, rfl⟩
      subst hws
      go_wp2_with fail
      go_loopw [6, 8, 10] (fun jv mv iv wr => ∃ i : Nat, i ≤ n ∧ iv = .int .i64 (i : Int) ∧ ∃ J, jv = .pointer (some ⟨J, 0, none⟩) ∧ ∃ g c, mv = .slice (some ⟨g, 0, none⟩) 12 c ∧ ∃ F d L C R us, JC wr F J D d L C (99900 - 400 * i) ∧ d.armed = false ∧ MS w wr (fun q => F q ∨ q = J) R (fun _ => False) g us C (.slice none 0 0) [] ∧ w.heap.size ≤ J) (fun _ _ iv _ => (n - intOf iv).toNat)
      case atStart => exact ⟨0, Nat.zero_le _, rfl, J3, rfl, g0, c0, rfl, F3, d3, L3, _, _, _, HJ4.out, HA3.out, HMS.out, HJN3.out⟩
      case round =>
        clear HMS HJ4 HA3 HJN3
        obtain ⟨i, hi, rfl, J, rfl, g, c, rfl, F, d, L, C, R, us, hjc, harm, hms, hJn⟩ := hrel
        by_cases hlt : i < n
        · obtain ⟨ga, oa, va, vp, vm, xa, ps, ms, st, hav, hact⟩ := HAC.out i hlt
          subst hav
          have ha := hact.turn hms.turn
          obtain ⟨aa, ca, rfl, _⟩ := src_any hact.a.src
          obtain ⟨pa, pc, hvp, _⟩ := src_any hact.p.src
          obtain ⟨ma, mc, hvm, _⟩ := src_any hact.m.src
          obtain ⟨Lp, hLp⟩ : ∃ Lp, ps.length = Lp := ⟨_, rfl⟩
          obtain ⟨Lm, hLm⟩ : ∃ Lm, ms.length = Lm := ⟨_, rfl⟩
          rw [hLp] at hvp
          rw [hLm] at hvm
          subst hvp
          subst hvm
          have a0 := ha.c0
          have a1 := ha.c1
          have a2 := ha.c2
          have a3 := ha.c3
          have hst := hact.stOk
          have HAA := Lib.hid hact.a
          have HAP := Lib.hid hact.p
          have HAM := Lib.hid hact.m
          have HLP := Lib.hid hLp
          have HLM := Lib.hid hLm
          have HJN := Lib.hid hJn
          clear hact ha hJn hLp hLm
          obtain ⟨wb, hwb⟩ : ∃ wb, wr.alloc (.cells #[.slice aa xa.length ca, .slice pa Lp pc, .int .u8 st, .slice ma Lm mc] 33) = wb := ⟨_, rfl⟩
          obtain ⟨AB, hAB⟩ : ∃ AB, wr.heap.size = AB := ⟨_, rfl⟩
          have tb : Turn (fun _ => False) wr wb := by rw [← hwb]; exact (Turn.refl _ wr).alloc _
          have hbx : wb.heap[AB]? = some (.cells #[.slice aa xa.length ca, .slice pa Lp pc, .int .u8 st, .slice ma Lm mc] 33 (0, 0)) := by rw [← hwb, ← hAB]; exact heap_alloc_new wr _
          have k0 : wb.cell? ⟨AB, 0, none⟩ = some (.slice aa xa.length ca) := cell_of_row wb AB 0 _ 33 (0, 0) hbx
          have k1 : wb.cell? ⟨AB, 1, none⟩ = some (.slice pa Lp pc) := cell_of_row wb AB 1 _ 33 (0, 0) hbx
          have k2 : wb.cell? ⟨AB, 2, none⟩ = some (.int .u8 st) := cell_of_row wb AB 2 _ 33 (0, 0) hbx
          have k3 : wb.cell? ⟨AB, 3, none⟩ = some (.slice ma Lm mc) := cell_of_row wb AB 3 _ 33 (0, 0) hbx
          have HBX := Lib.hid (show BX wb (fun q => F q ∨ q = J) AB _ from ⟨hbx, fun h => by
            rcases h with h | h
            · have := hjc.jh.dh.2 AB h; omega
            · have := hjc.jh.jat.lt; omega⟩)
          have HM0 := Lib.hid (hms.turn0 tb)
          have HJ0 := Lib.hid (hjc.turn0 tb)
          have HARM := Lib.hid harm
          have hiI : (i : Int) < (n : Int) := by omega
          have gi : (0 : Int) ≤ (i : Int) ∧ (i : Int) < (n : Int) := by omega
          clear hbx hjc hms harm tb
          by_cases hp64 : 64 < Lp
          · have q1 : decide ((64 : Int) < (Lp : Int)) = true := by simp; omega
            have q2 : decide (64 < Lp) = true := by simp; omega
            go_wp2_with fail
            go_ret
            exact ⟨rfl, HM0.out.turn⟩
          · have q1 : decide ((64 : Int) < (Lp : Int)) = false := by simp; omega
            have q2 : decide (64 < Lp) = false := by simp; omega
            by_cases hm20 : 20 < Lm
            · have q3 : decide ((20 : Int) < (Lm : Int)) = true := by simp; omega
              have q4 : decide (20 < Lm) = true := by simp; omega
              go_wp2_with fail
              go_ret
              exact ⟨rfl, HM0.out.turn⟩
            · have q3 : decide ((20 : Int) < (Lm : Int)) = false := by simp; omega
              have q4 : decide (20 < Lm) = false := by simp; omega
              go_wp2_with fail
              refine (pages_any wb aa pa ca pc Lp _ _ xa ps ((HAA.out.turn HM0.out.turn).src) (by have := (HAP.out.turn HM0.out.turn).src; exact this) HAA.out.ok HAP.out.ok (by have := HLP.out; omega) HLP.out (min xa.length 10) rfl).mono ?_
              rintro e w4 ⟨pv, rfl, hpg, T4⟩
              obtain ⟨lp, hlp⟩ : ∃ lp, actP xa ps (min xa.length 10) = lp := ⟨_, rfl⟩
              have HB4 := Lib.hid (HBX.out.turn0 T4)
              have HJ4 := Lib.hid (HJ0.out.turn0 T4)
              have HM4 := Lib.hid (show MS w w4 (fun q => F q ∨ q = J) R (fun k => wb.heap.size + 1 ≤ k ∧ k < w4.heap.size) g us C pv lp from
                { (HM0.out.turn0 T4) with
                  pg := by rw [← hlp]; exact hpg
                  pok := fun q hq => ⟨hq.2, fun h => by
                    rcases h with h | h
                    · have := HJ0.out.jh.dh.2 q h; omega
                    · have := HJ0.out.jh.jat.lt; omega⟩
                  lfit := by rw [← hlp]; exact actP_fit _ _ _ (by have := HLP.out; omega)
                  lok := by rw [← hlp]; exact actP_ok _ _ _ HAP.out.ok
                  llen := by rw [← hlp, actP_len]; omega })
              have k2' : w4.cell? ⟨AB, 2, none⟩ = some (.int .u8 st) := cell_of_row w4 AB 2 _ 33 (0, 0) HB4.out.bx
              clear hpg T4 hlp HBX HM0 HJ0 k0 k1 k2 k3 a0 a1 a2 a3 hwb hAB HAA
              obtain ⟨sn, rfl⟩ := Int.eq_ofNat_of_zero_le hst.1
              by_cases h100 : sn < 100
              · have q5 : decide ((sn : Int) < 100) = true := by simp; omega
                have q6 : decide (sn < 100) = true := by simp; omega
                obtain ⟨s40, hs40⟩ : ∃ s40, sn % 40 = s40 := ⟨_, rfl⟩
                have hs41 : ((sn : Int)).tmod 40 = (s40 : Int) := by rw [Int.tmod_eq_emod_of_nonneg (by omega)]; omega
                have hs42 : s40 < 40 := by omega
                clear hs40
                go_wp2_with fail
                refine (arm_h w4 F J D d L C _ (s40 : Int) HJ4.out (by omega)).mono ?_
                rintro e wA ⟨rfl, FA, hjA, hsA⟩
                have HM := Lib.hid (HM4.out.go (grown_j (w' := wA) (J := J) hsA.grown) (hsA.turn.mono (fun _ _ h => .inl h)))
                have HB := Lib.hid (HB4.out.go (grown_j (w' := wA) (J := J) hsA.grown) (hsA.turn.mono (fun _ _ h => .inl h)))
                have HJ := Lib.hid (hjA.less (show 99900 - 400 * (i + 1) + 200 + 200 ≤ _ by omega))
                clear hjA hsA HM4 HB4 HJ4 k2'
                have hlimA := HJ.out.lim
                have hsmA := HJ.out.small
                have hCl := HM.out.len
                go_wp2_with fail
                refine (write_h2 wA FA _ J D (d.armedBy (s40 : Int)) L C (99900 - 400 * (i + 1) + 200) pv _ HJ.out HM.out.pg (fun q hq => ⟨(HM.out.pok q hq).1, fun h => (HM.out.pok q hq).2 (.inl h), fun h => (HM.out.pok q hq).2 (.inr h)⟩) HM.out.lok (by have := HM.out.llen; omega) (by rw [hCl]; exact HM.out.lfit)).mono ?_
                rintro e w5 ⟨r, F5, d5, L5, rfl, hj5, hs5, hr5, hL5, hl5⟩
                have HM5 := Lib.hid (HM.out.go (grown_j (w' := w5) (J := J) hs5.grown) hs5.turn)
                have HB5 := Lib.hid (HB.out.go (grown_j (w' := w5) (J := J) hs5.grown) hs5.turn)
                have HJ5 := Lib.hid hj5
                have HR5 := Lib.hid hr5
                clear hj5 hs5 hr5
                rcases hl5 with ⟨rfl, hc5, hset5, harm5⟩ | ⟨rfl, hall5⟩
                · have HJC := Lib.hid (show JC w5 F5 J D d5 L5 (putM C lp) (99900 - 400 * (i + 1) + 200) from ⟨HJ5.out, hc5, hset5, HR5.out, by rw [putM_len]; exact hsmA, by omega⟩)
                  clear hc5 hset5 harm5
                  go_wp2_with fail
                  refine (put_ms w w5 _ R _ g c us C pv lp HM5.out (fun q hq => by
                    rcases hq with hq | hq
                    · exact HJ5.out.dh.2 q hq
                    · rw [hq]; exact HJ5.out.jat.lt)).mono ?_
                  rintro e w6 ⟨g6, c6, us6, R6, rfl, hm6, T6⟩
                  have HM6 := Lib.hid hm6
                  have HJ6 := Lib.hid (HJC.out.turn0 T6)
                  clear hm6 T6
                  go_wp2_with fail
                  refine (arm_h w6 F5 J D d5 L5 _ _ (-1) HJ6.out (by omega)).mono ?_
                  rintro e w7 ⟨rfl, F7, hj7, hs7⟩
                  have HM7 := Lib.hid (HM6.out.go (grown_j (w' := w7) (J := J) hs7.grown) (hs7.turn.mono (fun _ _ h => .inl h)))
                  have HJ7 := Lib.hid hj7
                  clear hj7 hs7
                  go_wp2_with fail
                  refine (same_any w7 F7 R6 J D _ L5 _ _ _ g6 12 c6 us6 HJ7.out HM7.out.m HM7.out.len HM7.out.len (by omega) HM7.out.mok).mono ?_
                  rintro e w8 ⟨rfl, T8⟩
                  rw [decide_eq_true rfl]
                  have HJZ := Lib.hid ((HJ7.out.turn0 T8).less (show 99900 - 400 * (i + 1) ≤ _ by omega))
                  have HAZ := Lib.hid (show (d5.armedBy (-1)).armed = false from rfl)
                  have HMZ := Lib.hid (HM7.out.turn0 T8)
                  clear T8
                  go_wp2_with fail
                  go_roundw
                  case rel => exact ⟨i + 1, by omega, by go_num, J, rfl, g6, c6, rfl, F7, _, L5, _, R6, us6, HJZ.out, HAZ.out, HMZ.out.none, HJN.out⟩
                  case measure => simp [intOf]; omega

                · have c53 : w5.cell? ⟨AB, 3, none⟩ = some (.slice ma Lm mc) := cell_of_row w5 AB 3 _ 33 (0, 0) HB5.out.bx
                  go_wp2_with fail
                  refine (crash_h2 w5 F5 J D d5 L5 C (putM C lp) (99900 - 400 * (i + 1) + 200) 9 false _ ms HJ5.out HR5.out (.inr ⟨rfl, hall5⟩) hsmA (by rw [putM_len]; exact hsmA) ((HAM.out.turn HM5.out.turn).src) (fun h0 q hq hF => by have := HAM.out.old q hq h0; have := HM5.out.foot q (.inl hF); omega) HAM.out.ok (by have := HLM.out; omega)).mono ?_
                  rintro e w6 ⟨rfl, F6, d6, hd6, ha6, hs6⟩
                  clear hall5 c53
                  obtain ⟨Cx, hCx, hdx⟩ : ∃ Cx, (Cx = C ∨ Cx = putM C lp) ∧ DC w6 F6 D d6 L5 Cx (99900 - 400 * (i + 1) + 200) := by
                    rcases hd6 with h | ⟨_, h⟩
                    · exact ⟨_, .inr rfl, h⟩
                    · exact ⟨_, .inl rfl, h⟩
                  have HM6 := Lib.hid (HM5.out.go (grown_j (w' := w6) (J := J) hs6.grown) (hs6.turn.mono (fun _ _ h => .inl h)))
                  have HB6 := Lib.hid (HB5.out.go (grown_j (w' := w6) (J := J) hs6.grown) (hs6.turn.mono (fun _ _ h => .inl h)))
                  have HD6 := Lib.hid hdx
                  have HCX := Lib.hid hCx
                  have hCxl : Cx.length = 12 := by
                    rcases hCx with h | h
                    · rw [h]; exact hCl
                    · rw [h, putM_len]; exact hCl
                  have HCXL := Lib.hid hCxl
                  clear hd6 hdx hCx hs6 ha6 hCxl
                  go_wp2_with fail
                  refine (arm_dc w6 F6 D d6 L5 Cx _ (ag : Int) HD6.out (by omega)).mono ?_
                  rintro e w7 ⟨rfl, F7, hd7, hs7⟩
                  have HM7 := Lib.hid (HM6.out.go (grown_j (w' := w7) (J := J) hs7.grown) (hs7.turn.mono (fun _ _ h => .inl h)))
                  have HB7 := Lib.hid (HB6.out.go (grown_j (w' := w7) (J := J) hs7.grown) (hs7.turn.mono (fun _ _ h => .inl h)))
                  have HD7 := Lib.hid hd7
                  clear hd7 hs7
                  go_wp2_with fail
                  refine (open_h2 w7 F7 D _ L5 Cx (99900 - 400 * (i + 1) + 100) HD7.out).mono ?_
                  rintro e w8 ⟨F8, hs8, ho8⟩
                  have HM8 := Lib.hid (HM7.out.go (grown_j (w' := w8) (J := J) hs8.grown) (hs8.turn.mono (fun _ _ h => .inl h)))
                  have HB8 := Lib.hid (HB7.out.go (grown_j (w' := w8) (J := J) hs8.grown) (hs8.turn.mono (fun _ _ h => .inl h)))
                  clear hs8
                  rcases ho8 with ⟨J8, d8, rfl, hd8⟩ | ⟨d8, rfl, hd8, hr8, hall8⟩
                  · have HD8 := Lib.hid hd8
                    clear hd8
                    go_wp2_with fail
                    refine (arm_dc w8 F8 D d8 L5 Cx _ (-1) HD8.out (by omega)).mono ?_
                    rintro e w10 ⟨rfl, F10, hd10, hs10⟩
                    have HM10 := Lib.hid (HM8.out.go (grown_j (w' := w10) (J := J) hs10.grown) (hs10.turn.mono (fun _ _ h => .inl h)))
                    have HD10 := Lib.hid hd10
                    clear hd10 hs10
                    go_wp2_with fail
                    refine (open_h w10 F10 D _ L5 Cx (99900 - 400 * (i + 1)) HD10.out rfl (by omega)).mono ?_
                    rintro e w11 ⟨J11, F11, d11, L11, rfl, hj11, ha11, hJ11, hs11, _⟩
                    have HM11 := Lib.hid ((HM10.out.sub (G' := F10) (fun q h => .inl h)).go (G' := fun q => F11 q ∨ q = J11) (fun q hq => by
                      rcases hq with hq | hq
                      · exact hs11.grown q hq
                      · right; omega) hs11.turn)
                    have HJ11 := Lib.hid hj11
                    have HAZ := Lib.hid ha11
                    have HJN11 := Lib.hid (show w.heap.size ≤ J11 by have := HM10.out.turn.size; omega)
                    clear hj11 ha11 hs11 hJ11
                    go_wp2_with fail
                    refine (same_any w11 F11 R J11 D _ L11 Cx C _ g 12 c us HJ11.out HM11.out.m HM11.out.len HCXL.out (by omega) HM11.out.mok).mono ?_
                    rintro e w12 ⟨rfl, T12⟩
                    have HM12 := Lib.hid (HM11.out.turn0 T12)
                    have HJ12 := Lib.hid (HJ11.out.turn0 T12)
                    clear T12
                    by_cases hEq : Cx = C
                    · rw [decide_eq_true hEq]
                      have HJZ := Lib.hid (show JC w12 F11 J11 D d11 L11 C (99900 - 400 * (i + 1)) from hEq ▸ HJ12.out)
                      have HMZ := Lib.hid HM12.out
                      clear hEq
                      go_wp2_with fail
                      go_roundw
                      case rel => exact ⟨i + 1, by omega, by go_num, J11, rfl, g, c, rfl, F11, d11, L11, C, R, us, HJZ.out, HAZ.out, HMZ.out.none, HJN11.out⟩
                      case measure => simp [intOf]; omega

                    · rw [decide_eq_false hEq]
                      have hE2 : Cx = putM C lp := by
                        rcases HCX.out with h | h
                        · exact absurd h hEq
                        · exact h
                      have HE2 := Lib.hid hE2
                      clear hE2 hEq
                      go_wp2_with fail
                      refine (put_ms w w12 _ R _ g c us C pv lp HM12.out (fun q hq => by
                        rcases hq with hq | hq
                        · exact HJ12.out.jh.dh.2 q hq
                        · rw [hq]; exact HJ12.out.jh.jat.lt)).mono ?_
                      rintro e w13 ⟨g13, c13, us13, R13, rfl, hm13, T13⟩
                      have HM13 := Lib.hid hm13
                      have HJ13 := Lib.hid (HJ12.out.turn0 T13)
                      clear hm13 T13
                      go_wp2_with fail
                      refine (same_any w13 F11 R13 J11 D _ L11 Cx _ _ g13 12 c13 us13 HJ13.out HM13.out.m HM13.out.len HCXL.out (by omega) HM13.out.mok).mono ?_
                      rintro e w14 ⟨rfl, T14⟩
                      rw [decide_eq_true HE2.out]
                      have HJZ := Lib.hid (show JC w14 F11 J11 D d11 L11 (putM C lp) (99900 - 400 * (i + 1)) from HE2.out ▸ HJ13.out.turn0 T14)
                      have HMZ := Lib.hid (HM13.out.turn0 T14)
                      clear T14
                      go_wp2_with fail
                      go_roundw
                      case rel => exact ⟨i + 1, by omega, by go_num, J11, rfl, g13, c13, rfl, F11, d11, L11, _, R13, us13, HJZ.out, HAZ.out, HMZ.out.none, HJN11.out⟩
                      case measure => simp [intOf]; omega


                  · have c81 : w8.cell? ⟨AB, 1, none⟩ = some (.slice pa Lp pc) := cell_of_row w8 AB 1 _ 33 (0, 0) HB8.out.bx
                    go_wp2_with fail
                    refine (crash_op w8 F8 D d8 L5 Cx (99900 - 400 * (i + 1) + 100) _ ps hd8 hr8 hall8 (by rw [HCXL.out]; omega) ((HAP.out.turn HM8.out.turn).src) (fun h0 q hq hF => by have := HAP.out.old q hq h0; have := HM8.out.foot q (.inl hF); omega) HAP.out.ok (by have := HLP.out; omega)).mono ?_
                    rintro e w9 ⟨rfl, F9, d9, hd9, hs9⟩
                    have HM9 := Lib.hid (HM8.out.go (grown_j (w' := w9) (J := J) hs9.grown) (hs9.turn.mono (fun _ _ h => .inl h)))
                    have HD9 := Lib.hid hd9
                    clear hd8 hr8 hall8 c81 hd9 hs9
                    go_wp2_with fail
                    refine (arm_dc w9 F9 D d9 L5 Cx _ (-1) HD9.out (by omega)).mono ?_
                    rintro e w10 ⟨rfl, F10, hd10, hs10⟩
                    have HM10 := Lib.hid (HM9.out.go (grown_j (w' := w10) (J := J) hs10.grown) (hs10.turn.mono (fun _ _ h => .inl h)))
                    have HD10 := Lib.hid hd10
                    clear hd10 hs10
                    go_wp2_with fail
                    refine (open_h w10 F10 D _ L5 Cx (99900 - 400 * (i + 1)) HD10.out rfl (by omega)).mono ?_
                    rintro e w11 ⟨J11, F11, d11, L11, rfl, hj11, ha11, hJ11, hs11, _⟩
                    have HM11 := Lib.hid ((HM10.out.sub (G' := F10) (fun q h => .inl h)).go (G' := fun q => F11 q ∨ q = J11) (fun q hq => by
                      rcases hq with hq | hq
                      · exact hs11.grown q hq
                      · right; omega) hs11.turn)
                    have HJ11 := Lib.hid hj11
                    have HAZ := Lib.hid ha11
                    have HJN11 := Lib.hid (show w.heap.size ≤ J11 by have := HM10.out.turn.size; omega)
                    clear hj11 ha11 hs11 hJ11
                    go_wp2_with fail
                    refine (same_any w11 F11 R J11 D _ L11 Cx C _ g 12 c us HJ11.out HM11.out.m HM11.out.len HCXL.out (by omega) HM11.out.mok).mono ?_
                    rintro e w12 ⟨rfl, T12⟩
                    have HM12 := Lib.hid (HM11.out.turn0 T12)
                    have HJ12 := Lib.hid (HJ11.out.turn0 T12)
                    clear T12
                    by_cases hEq : Cx = C
                    · rw [decide_eq_true hEq]
                      have HJZ := Lib.hid (show JC w12 F11 J11 D d11 L11 C (99900 - 400 * (i + 1)) from hEq ▸ HJ12.out)
                      have HMZ := Lib.hid HM12.out
                      clear hEq
                      go_wp2_with fail
                      go_roundw
                      case rel => exact ⟨i + 1, by omega, by go_num, J11, rfl, g, c, rfl, F11, d11, L11, C, R, us, HJZ.out, HAZ.out, HMZ.out.none, HJN11.out⟩
                      case measure => simp [intOf]; omega

                    · rw [decide_eq_false hEq]
                      have hE2 : Cx = putM C lp := by
                        rcases HCX.out with h | h
                        · exact absurd h hEq
                        · exact h
                      have HE2 := Lib.hid hE2
                      clear hE2 hEq
                      go_wp2_with fail
                      refine (put_ms w w12 _ R _ g c us C pv lp HM12.out (fun q hq => by
                        rcases hq with hq | hq
                        · exact HJ12.out.jh.dh.2 q hq
                        · rw [hq]; exact HJ12.out.jh.jat.lt)).mono ?_
                      rintro e w13 ⟨g13, c13, us13, R13, rfl, hm13, T13⟩
                      have HM13 := Lib.hid hm13
                      have HJ13 := Lib.hid (HJ12.out.turn0 T13)
                      clear hm13 T13
                      go_wp2_with fail
                      refine (same_any w13 F11 R13 J11 D _ L11 Cx _ _ g13 12 c13 us13 HJ13.out HM13.out.m HM13.out.len HCXL.out (by omega) HM13.out.mok).mono ?_
                      rintro e w14 ⟨rfl, T14⟩
                      rw [decide_eq_true HE2.out]
                      have HJZ := Lib.hid (show JC w14 F11 J11 D d11 L11 (putM C lp) (99900 - 400 * (i + 1)) from HE2.out ▸ HJ13.out.turn0 T14)
                      have HMZ := Lib.hid (HM13.out.turn0 T14)
                      clear T14
                      go_wp2_with fail
                      go_roundw
                      case rel => exact ⟨i + 1, by omega, by go_num, J11, rfl, g13, c13, rfl, F11, d11, L11, _, R13, us13, HJZ.out, HAZ.out, HMZ.out.none, HJN11.out⟩
                      case measure => simp [intOf]; omega



              · have q5 : decide ((sn : Int) < 100) = false := by simp; omega
                have q6 : decide (sn < 100) = false := by simp; omega
                have HM := Lib.hid HM4.out
                have HB := Lib.hid HB4.out
                have HJ := Lib.hid (HJ4.out.less (show 99900 - 400 * (i + 1) + 200 + 200 ≤ _ by omega))
                clear HM4 HB4 HJ4
                have hlimA := HJ.out.lim
                have hsmA := HJ.out.small
                have hCl := HM.out.len
                go_wp2_with fail
                refine (write_h2 w4 F _ J D d L C (99900 - 400 * (i + 1) + 200) pv _ HJ.out HM.out.pg (fun q hq => ⟨(HM.out.pok q hq).1, fun h => (HM.out.pok q hq).2 (.inl h), fun h => (HM.out.pok q hq).2 (.inr h)⟩) HM.out.lok (by have := HM.out.llen; omega) (by rw [hCl]; exact HM.out.lfit)).mono ?_
                rintro e w5 ⟨r, F5, d5, L5, rfl, hj5, hs5, hr5, hL5, hl5⟩
                have HM5 := Lib.hid (HM.out.go (grown_j (w' := w5) (J := J) hs5.grown) hs5.turn)
                have HB5 := Lib.hid (HB.out.go (grown_j (w' := w5) (J := J) hs5.grown) hs5.turn)
                have HJ5 := Lib.hid hj5
                have HR5 := Lib.hid hr5
                clear hj5 hs5 hr5
                rcases hl5 with ⟨rfl, hc5, hset5, harm5⟩ | ⟨rfl, hall5⟩
                · have HJC := Lib.hid (show JC w5 F5 J D d5 L5 (putM C lp) (99900 - 400 * (i + 1) + 200) from ⟨HJ5.out, hc5, hset5, HR5.out, by rw [putM_len]; exact hsmA, by omega⟩)
                  clear hc5 hset5 harm5
                  go_wp2_with fail
                  refine (put_ms w w5 _ R _ g c us C pv lp HM5.out (fun q hq => by
                    rcases hq with hq | hq
                    · exact HJ5.out.dh.2 q hq
                    · rw [hq]; exact HJ5.out.jat.lt)).mono ?_
                  rintro e w6 ⟨g6, c6, us6, R6, rfl, hm6, T6⟩
                  have HM6 := Lib.hid hm6
                  have HJ6 := Lib.hid (HJC.out.turn0 T6)
                  clear hm6 T6
                  go_wp2_with fail
                  refine (arm_h w6 F5 J D d5 L5 _ _ (-1) HJ6.out (by omega)).mono ?_
                  rintro e w7 ⟨rfl, F7, hj7, hs7⟩
                  have HM7 := Lib.hid (HM6.out.go (grown_j (w' := w7) (J := J) hs7.grown) (hs7.turn.mono (fun _ _ h => .inl h)))
                  have HJ7 := Lib.hid hj7
                  clear hj7 hs7
                  go_wp2_with fail
                  refine (same_any w7 F7 R6 J D _ L5 _ _ _ g6 12 c6 us6 HJ7.out HM7.out.m HM7.out.len HM7.out.len (by omega) HM7.out.mok).mono ?_
                  rintro e w8 ⟨rfl, T8⟩
                  rw [decide_eq_true rfl]
                  have HJZ := Lib.hid ((HJ7.out.turn0 T8).less (show 99900 - 400 * (i + 1) ≤ _ by omega))
                  have HAZ := Lib.hid (show (d5.armedBy (-1)).armed = false from rfl)
                  have HMZ := Lib.hid (HM7.out.turn0 T8)
                  clear T8
                  go_wp2_with fail
                  go_roundw
                  case rel => exact ⟨i + 1, by omega, by go_num, J, rfl, g6, c6, rfl, F7, _, L5, _, R6, us6, HJZ.out, HAZ.out, HMZ.out.none, HJN.out⟩
                  case measure => simp [intOf]; omega

                · have c53 : w5.cell? ⟨AB, 3, none⟩ = some (.slice ma Lm mc) := cell_of_row w5 AB 3 _ 33 (0, 0) HB5.out.bx
                  go_wp2_with fail
                  refine (crash_h2 w5 F5 J D d5 L5 C (putM C lp) (99900 - 400 * (i + 1) + 200) 9 false _ ms HJ5.out HR5.out (.inr ⟨rfl, hall5⟩) hsmA (by rw [putM_len]; exact hsmA) ((HAM.out.turn HM5.out.turn).src) (fun h0 q hq hF => by have := HAM.out.old q hq h0; have := HM5.out.foot q (.inl hF); omega) HAM.out.ok (by have := HLM.out; omega)).mono ?_
                  rintro e w6 ⟨rfl, F6, d6, hd6, ha6, hs6⟩
                  clear hall5 c53
                  obtain ⟨Cx, hCx, hdx⟩ : ∃ Cx, (Cx = C ∨ Cx = putM C lp) ∧ DC w6 F6 D d6 L5 Cx (99900 - 400 * (i + 1) + 200) := by
                    rcases hd6 with h | ⟨_, h⟩
                    · exact ⟨_, .inr rfl, h⟩
                    · exact ⟨_, .inl rfl, h⟩
                  have HM6 := Lib.hid (HM5.out.go (grown_j (w' := w6) (J := J) hs6.grown) (hs6.turn.mono (fun _ _ h => .inl h)))
                  have HB6 := Lib.hid (HB5.out.go (grown_j (w' := w6) (J := J) hs6.grown) (hs6.turn.mono (fun _ _ h => .inl h)))
                  have HD6 := Lib.hid hdx
                  have HCX := Lib.hid hCx
                  have hCxl : Cx.length = 12 := by
                    rcases hCx with h | h
                    · rw [h]; exact hCl
                    · rw [h, putM_len]; exact hCl
                  have HCXL := Lib.hid hCxl
                  clear hd6 hdx hCx hs6 ha6 hCxl
                  go_wp2_with fail
                  refine (arm_dc w6 F6 D d6 L5 Cx _ (ag : Int) HD6.out (by omega)).mono ?_
                  rintro e w7 ⟨rfl, F7, hd7, hs7⟩
                  have HM7 := Lib.hid (HM6.out.go (grown_j (w' := w7) (J := J) hs7.grown) (hs7.turn.mono (fun _ _ h => .inl h)))
                  have HB7 := Lib.hid (HB6.out.go (grown_j (w' := w7) (J := J) hs7.grown) (hs7.turn.mono (fun _ _ h => .inl h)))
                  have HD7 := Lib.hid hd7
                  clear hd7 hs7
                  go_wp2_with fail
                  refine (open_h2 w7 F7 D _ L5 Cx (99900 - 400 * (i + 1) + 100) HD7.out).mono ?_
                  rintro e w8 ⟨F8, hs8, ho8⟩
                  have HM8 := Lib.hid (HM7.out.go (grown_j (w' := w8) (J := J) hs8.grown) (hs8.turn.mono (fun _ _ h => .inl h)))
                  have HB8 := Lib.hid (HB7.out.go (grown_j (w' := w8) (J := J) hs8.grown) (hs8.turn.mono (fun _ _ h => .inl h)))
                  clear hs8
                  rcases ho8 with ⟨J8, d8, rfl, hd8⟩ | ⟨d8, rfl, hd8, hr8, hall8⟩
                  · have HD8 := Lib.hid hd8
                    clear hd8
                    go_wp2_with fail
                    refine (arm_dc w8 F8 D d8 L5 Cx _ (-1) HD8.out (by omega)).mono ?_
                    rintro e w10 ⟨rfl, F10, hd10, hs10⟩
                    have HM10 := Lib.hid (HM8.out.go (grown_j (w' := w10) (J := J) hs10.grown) (hs10.turn.mono (fun _ _ h => .inl h)))
                    have HD10 := Lib.hid hd10
                    clear hd10 hs10
                    go_wp2_with fail
                    refine (open_h w10 F10 D _ L5 Cx (99900 - 400 * (i + 1)) HD10.out rfl (by omega)).mono ?_
                    rintro e w11 ⟨J11, F11, d11, L11, rfl, hj11, ha11, hJ11, hs11, _⟩
                    have HM11 := Lib.hid ((HM10.out.sub (G' := F10) (fun q h => .inl h)).go (G' := fun q => F11 q ∨ q = J11) (fun q hq => by
                      rcases hq with hq | hq
                      · exact hs11.grown q hq
                      · right; omega) hs11.turn)
                    have HJ11 := Lib.hid hj11
                    have HAZ := Lib.hid ha11
                    have HJN11 := Lib.hid (show w.heap.size ≤ J11 by have := HM10.out.turn.size; omega)
                    clear hj11 ha11 hs11 hJ11
                    go_wp2_with fail
                    refine (same_any w11 F11 R J11 D _ L11 Cx C _ g 12 c us HJ11.out HM11.out.m HM11.out.len HCXL.out (by omega) HM11.out.mok).mono ?_
                    rintro e w12 ⟨rfl, T12⟩
                    have HM12 := Lib.hid (HM11.out.turn0 T12)
                    have HJ12 := Lib.hid (HJ11.out.turn0 T12)
                    clear T12
                    by_cases hEq : Cx = C
                    · rw [decide_eq_true hEq]
                      have HJZ := Lib.hid (show JC w12 F11 J11 D d11 L11 C (99900 - 400 * (i + 1)) from hEq ▸ HJ12.out)
                      have HMZ := Lib.hid HM12.out
                      clear hEq
                      go_wp2_with fail
                      go_roundw
                      case rel => exact ⟨i + 1, by omega, by go_num, J11, rfl, g, c, rfl, F11, d11, L11, C, R, us, HJZ.out, HAZ.out, HMZ.out.none, HJN11.out⟩
                      case measure => simp [intOf]; omega

                    · rw [decide_eq_false hEq]
                      have hE2 : Cx = putM C lp := by
                        rcases HCX.out with h | h
                        · exact absurd h hEq
                        · exact h
                      have HE2 := Lib.hid hE2
                      clear hE2 hEq
                      go_wp2_with fail
                      refine (put_ms w w12 _ R _ g c us C pv lp HM12.out (fun q hq => by
                        rcases hq with hq | hq
                        · exact HJ12.out.jh.dh.2 q hq
                        · rw [hq]; exact HJ12.out.jh.jat.lt)).mono ?_
                      rintro e w13 ⟨g13, c13, us13, R13, rfl, hm13, T13⟩
                      have HM13 := Lib.hid hm13
                      have HJ13 := Lib.hid (HJ12.out.turn0 T13)
                      clear hm13 T13
                      go_wp2_with fail
                      refine (same_any w13 F11 R13 J11 D _ L11 Cx _ _ g13 12 c13 us13 HJ13.out HM13.out.m HM13.out.len HCXL.out (by omega) HM13.out.mok).mono ?_
                      rintro e w14 ⟨rfl, T14⟩
                      rw [decide_eq_true HE2.out]
                      have HJZ := Lib.hid (show JC w14 F11 J11 D d11 L11 (putM C lp) (99900 - 400 * (i + 1)) from HE2.out ▸ HJ13.out.turn0 T14)
                      have HMZ := Lib.hid (HM13.out.turn0 T14)
                      clear T14
                      go_wp2_with fail
                      go_roundw
                      case rel => exact ⟨i + 1, by omega, by go_num, J11, rfl, g13, c13, rfl, F11, d11, L11, _, R13, us13, HJZ.out, HAZ.out, HMZ.out.none, HJN11.out⟩
                      case measure => simp [intOf]; omega


                  · have c81 : w8.cell? ⟨AB, 1, none⟩ = some (.slice pa Lp pc) := cell_of_row w8 AB 1 _ 33 (0, 0) HB8.out.bx
                    go_wp2_with fail
                    refine (crash_op w8 F8 D d8 L5 Cx (99900 - 400 * (i + 1) + 100) _ ps hd8 hr8 hall8 (by rw [HCXL.out]; omega) ((HAP.out.turn HM8.out.turn).src) (fun h0 q hq hF => by have := HAP.out.old q hq h0; have := HM8.out.foot q (.inl hF); omega) HAP.out.ok (by have := HLP.out; omega)).mono ?_
                    rintro e w9 ⟨rfl, F9, d9, hd9, hs9⟩
                    have HM9 := Lib.hid (HM8.out.go (grown_j (w' := w9) (J := J) hs9.grown) (hs9.turn.mono (fun _ _ h => .inl h)))
                    have HD9 := Lib.hid hd9
                    clear hd8 hr8 hall8 c81 hd9 hs9
                    go_wp2_with fail
                    refine (arm_dc w9 F9 D d9 L5 Cx _ (-1) HD9.out (by omega)).mono ?_
                    rintro e w10 ⟨rfl, F10, hd10, hs10⟩
                    have HM10 := Lib.hid (HM9.out.go (grown_j (w' := w10) (J := J) hs10.grown) (hs10.turn.mono (fun _ _ h => .inl h)))
                    have HD10 := Lib.hid hd10
                    clear hd10 hs10
                    go_wp2_with fail
                    refine (open_h w10 F10 D _ L5 Cx (99900 - 400 * (i + 1)) HD10.out rfl (by omega)).mono ?_
                    rintro e w11 ⟨J11, F11, d11, L11, rfl, hj11, ha11, hJ11, hs11, _⟩
                    have HM11 := Lib.hid ((HM10.out.sub (G' := F10) (fun q h => .inl h)).go (G' := fun q => F11 q ∨ q = J11) (fun q hq => by
                      rcases hq with hq | hq
                      · exact hs11.grown q hq
                      · right; omega) hs11.turn)
                    have HJ11 := Lib.hid hj11
                    have HAZ := Lib.hid ha11
                    have HJN11 := Lib.hid (show w.heap.size ≤ J11 by have := HM10.out.turn.size; omega)
                    clear hj11 ha11 hs11 hJ11
                    go_wp2_with fail
                    refine (same_any w11 F11 R J11 D _ L11 Cx C _ g 12 c us HJ11.out HM11.out.m HM11.out.len HCXL.out (by omega) HM11.out.mok).mono ?_
                    rintro e w12 ⟨rfl, T12⟩
                    have HM12 := Lib.hid (HM11.out.turn0 T12)
                    have HJ12 := Lib.hid (HJ11.out.turn0 T12)
                    clear T12
                    by_cases hEq : Cx = C
                    · rw [decide_eq_true hEq]
                      have HJZ := Lib.hid (show JC w12 F11 J11 D d11 L11 C (99900 - 400 * (i + 1)) from hEq ▸ HJ12.out)
                      have HMZ := Lib.hid HM12.out
                      clear hEq
                      go_wp2_with fail
                      go_roundw
                      case rel => exact ⟨i + 1, by omega, by go_num, J11, rfl, g, c, rfl, F11, d11, L11, C, R, us, HJZ.out, HAZ.out, HMZ.out.none, HJN11.out⟩
                      case measure => simp [intOf]; omega

                    · rw [decide_eq_false hEq]
                      have hE2 : Cx = putM C lp := by
                        rcases HCX.out with h | h
                        · exact absurd h hEq
                        · exact h
                      have HE2 := Lib.hid hE2
                      clear hE2 hEq
                      go_wp2_with fail
                      refine (put_ms w w12 _ R _ g c us C pv lp HM12.out (fun q hq => by
                        rcases hq with hq | hq
                        · exact HJ12.out.jh.dh.2 q hq
                        · rw [hq]; exact HJ12.out.jh.jat.lt)).mono ?_
                      rintro e w13 ⟨g13, c13, us13, R13, rfl, hm13, T13⟩
                      have HM13 := Lib.hid hm13
                      have HJ13 := Lib.hid (HJ12.out.turn0 T13)
                      clear hm13 T13
                      go_wp2_with fail
                      refine (same_any w13 F11 R13 J11 D _ L11 Cx _ _ g13 12 c13 us13 HJ13.out HM13.out.m HM13.out.len HCXL.out (by omega) HM13.out.mok).mono ?_
                      rintro e w14 ⟨rfl, T14⟩
                      rw [decide_eq_true HE2.out]
                      have HJZ := Lib.hid (show JC w14 F11 J11 D d11 L11 (putM C lp) (99900 - 400 * (i + 1)) from HE2.out ▸ HJ13.out.turn0 T14)
                      have HMZ := Lib.hid (HM13.out.turn0 T14)
                      clear T14
                      go_wp2_with fail
                      go_roundw
                      case rel => exact ⟨i + 1, by omega, by go_num, J11, rfl, g13, c13, rfl, F11, d11, L11, _, R13, us13, HJZ.out, HAZ.out, HMZ.out.none, HJN11.out⟩
                      case measure => simp [intOf]; omega



        · obtain rfl : i = n := by omega
          have hiI : ¬ ((i : Int) < (i : Int)) := by omega
          have HT := Lib.hid hms.turn
          clear hms hjc
          go_wp2_with fail
          go_ret
          exact ⟨rfl, HT.out⟩
set_option maxHeartbeats 1600000 in
set_option maxRecDepth 100000 in
theorem journalPlays_walk (w : World) (v : Value) (ag : Int) (hag : 0 ≤ ag ∧ ag < 256) (hv : ∃ n, ActsIn w v n) : Calls Try.prog 3 #[v, .int .u8 ag] w (AwakePost w) := by
  obtain ⟨a, rfl⟩ := Int.eq_ofNat_of_zero_le hag.1
  obtain ⟨n, hv⟩ := hv
  by_cases hn : n ≤ 15
  · exact plays_walk w v n a (by omega) hv hn
  · obtain ⟨av, cv, rfl, hmx, _⟩ := hv
    have g1 : decide ((15 : Int) < (n : Int)) = true := by simp; omega
    have g2 : decide (15 < n) = true := by simp; omega
    clear hmx
    go_enter Try.func3, Try.ntmps3
    go_wp2_with fail
    refine (awake_any w).mono ?_
    rintro e w1 ⟨rfl, t1⟩
    go_wp2_with fail
    refine (awake_any w1).mono ?_
    rintro e w2 ⟨rfl, t2⟩
    go_wp2_with fail
    go_ret
    exact ⟨rfl, t1.trans t2 (fun _ _ => id)⟩
end Go.Proofs.Ytakmkkgpkbpbkaa
