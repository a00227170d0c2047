/- Own: the walk of JournalMany. -/
import Derived.Test.YtakmkkgpkbpbkaaHarm
import Derived.Test.YtakmkkgpkbpbkaaTwice
namespace Go.Proofs.Ytakmkkgpkbpbkaa
open Go.RowKit
set_option linter.unusedVariables false
set_option linter.unusedSimpArgs false

def arrV (l : List Nat) : Array Value := (l.map fun (x : Nat) => Value.int .i64 (x : Int)).toArray
def ArrAt (w : World) (A : Nat) (l : List Nat) : Prop := w.heap[A]? = some (.cells (arrV l) 49 (0, 0)) ∧ l.length = 8
theorem ArrAt.cell {w : World} {A : Nat} {l : List Nat} (h : ArrAt w A l) (a : Nat) (ha : a < 8) : w.cell? ⟨A, a, none⟩ = some (.int .i64 ((l.getD a 0 : Nat) : Int)) := by
  rw [cell_of_row w A a _ 49 (0, 0) h.1]
  have := h.2
  simp [arrV, List.getD, show a < l.length by omega]
theorem ArrAt.free {w : World} {A : Nat} {l : List Nat} (h : ArrAt w A l) (a : Nat) : w.frozen? ⟨A, a, none⟩ = false := frozen_of_row w A a _ 49 h.1
theorem ArrAt.turn {w w' : World} {A : Nat} {l : List Nat} {G : Nat → Prop} (h : ArrAt w A l) (t : Turn G w w') (hn : ¬ G A) : ArrAt w' A l := ⟨(t.block A (Array.getElem?_eq_some_iff.1 h.1).1 hn).trans h.1, h.2⟩
theorem ArrAt.set {w : World} {A : Nat} {l : List Nat} (h : ArrAt w A l) (a x : Nat) : ArrAt (w.setCell ⟨A, a, none⟩ (.int .i64 (x : Int))) A (l.set a x) := by
  refine ⟨?_, by simp [h.2]⟩
  rw [heap_setCell_same w A a _ 49 _ h.1]
  simp [arrV]
/-- What the sectors hold, by who wrote them last. -/
def secN (ys : List Int) (x : Nat) : List Int := if x = 0 then noughts else pad64 ((x : Int) :: ys)
def Tells (C : List (List Int)) (l : List Nat) (ys : List Int) : Prop := C.length = 8 ∧ ∀ a, a < 8 → C.getD a [] = secN ys (l.getD a 0)
theorem Tells.next {C : List (List Int)} {l : List Nat} {ys : List Int} (h : Tells C l ys) (hl : l.length = 8) (a x : Nat) (ha : a < 8) (hx : 0 < x) : Tells (putM C [((a : Int), (x : Int) :: ys)]) (l.set a x) ys := by
  refine ⟨by rw [putM_len]; exact h.1, fun b hb => ?_⟩
  rw [putM_at C _ b (by rw [h.1]; exact hb)]
  have e : (49 + (a : Int)).toNat = 49 + a := by omega
  by_cases hab : a = b
  · subst hab
    simp [layW, lastW, e, secN, List.getD, hl, ha, show ¬ x = 0 by omega]
  · have e2 : ¬ (49 + a = 49 + b) := by omega
    simp only [layW, List.map_cons, List.map_nil, lastW, e, Option.none_or]
    rw [if_neg e2, Option.getD_none, h.2 b hb]
    congr 1
    simp [List.getD, List.getElem?_set, hab]
theorem fits_one {n : Nat} {a : Int} {xs : List Int} (ha : 0 ≤ a ∧ a < (n : Int)) (hx : xs.length ≤ 64) : fitsB n [(a, xs)] = true := by
  simp [fitsB, ha.1, ha.2, hx]
theorem rep8 : ∀ a, a < 8 → (List.replicate 8 (0 : Nat)).getD a 0 = 0 := by decide
theorem rep57 (a : Nat) (ha : a < 8) : (List.replicate (57 - 49) noughts).getD a [] = noughts := by
  rw [List.getD, List.getElem?_replicate, if_pos (by omega)]; rfl
theorem JC.less {w : World} {F : Nat → Prop} {J D : Nat} {d : DiskM} {L : Nat} {C : List (List Int)} {n m : Nat} (h : JC w F J D d L C n) (hm : m ≤ n) : JC w F J D d L C m := { h with room := h.room.less hm, lim := by have := h.lim; omega }
theorem JC.turnA {w w' : World} {F : Nat → Prop} {J D A : Nat} {d : DiskM} {L : Nat} {C : List (List Int)} {n : Nat} (h : JC w F J D d L C n) (t : Turn (fun q => q = A) w w') (hF : ¬ F A) (hJ : J ≠ A) : JC w' F J D d L C n :=
  { h with jh := ⟨h.jh.dh.turn t (fun k hk e => hF (e ▸ hk)), h.jh.jat.turn t hJ, h.jh.nJ, h.jh.big⟩ }
theorem own_one (w : World) (x : Int) : (w.alloc (.cells #[.int .u8 x] 5)).ownsRow w.heap.size 5 1 (.slice (some ⟨w.heap.size, 0, none⟩) 1 1) 1 ([x].map (Value.int .u8)) :=
  ⟨rfl, .inr ⟨w.heap.size, 1, #[.int .u8 x], rfl, Nat.le_refl _, heap_alloc_new w _, Nat.le_refl _, by unfold maxLen; omega, rfl, rfl⟩⟩
theorem zero49a (w : World) : (zeroValue 49).run Try.prog w = .ok (.agg (arrV (List.replicate 8 0))) w := by kernel_rfl

set_option maxHeartbeats 8000000 in
set_option maxRecDepth 100000 in
theorem many_walk (vl vp : Value) (xs ys : List Int) (w : World) (hl : Src w vl xs) (hp : Src w vp ys) (ol : BytesOk xs) (op : BytesOk ys) (np : ∀ k, vp.ownBlock = some k → 0 < ys.length → k < w.heap.size) (hx : xs.length ≤ 40) (hy : ys.length ≤ 63) :
    Calls Try.prog 6 #[vl, vp] w (AwakePost w) := by
  have HL := Lib.hid hl
  have HP := Lib.hid hp
  have HOL := Lib.hid ol
  have HOP := Lib.hid op
  have HNP := Lib.hid np
  obtain ⟨al, cl, rfl, ql⟩ := src_any hl
  obtain ⟨ap', cp, rfl, _⟩ := src_any hp
  have HQL := Lib.hid ql
  clear hl hp ol op np ql
  have g1 : decide ((40 : Int) < (xs.length : Int)) = false := by simp; omega
  have g2 : decide (40 < xs.length) = false := by simp; omega
  have g3 : decide ((63 : Int) < (ys.length : Int)) = false := by simp; omega
  have g4 : decide (63 < ys.length) = false := by simp; omega
  obtain ⟨n, hn⟩ : ∃ n, xs.length = n := ⟨_, rfl⟩
  have HN := Lib.hid hn
  simp only [hn] at g1 g2 HL HQL hx ⊢
  clear hn
  go_enter Try.func6, Try.ntmps6
  go_wp2_with fail
  refine (awake_any w).mono ?_
  rintro e w1 ⟨rfl, t1⟩
  go_wp2_with fail
  refine (new_h w1 57 100000 (by omega) (by omega)).mono ?_
  rintro e w2 ⟨D, F2, rfl, hd2, hF2, t2⟩
  have HD2 := Lib.hid hd2
  clear hd2
  go_wp2_with fail
  refine (open_h w2 F2 D (newM 57) 0 _ 99900 HD2.out rfl (by omega)).mono ?_
  rintro e w3 ⟨J, F3, d3, L3, rfl, hj3, ha3, hJ3, hs3, hL3⟩
  have T3 : Turn (fun _ => False) w w3 := ((t1.trans t2 (fun _ _ => id))).trans hs3.turn (fun q hq h => by have := hF2 q h; have := t1.size; omega)
  have hF3 : ∀ q, F3 q → w.heap.size ≤ q := fun q hq => by
    have := t1.size; have := t2.size
    rcases hs3.grown q hq with h | h
    · have := hF2 q h; omega
    · omega
  have hJw : w.heap.size ≤ J := by have := t1.size; have := t2.size; omega
  have HJ3 := Lib.hid hj3
  have HA3 := Lib.hid ha3
  clear hj3 ha3 hs3 hF2 t1 t2 hJ3
  have hz49 := zero49a
  go_wp2_with fail
  generalize hW4 : World.alloc w3 _ = w4
  have hA4 : ArrAt w4 w3.heap.size (List.replicate 8 0) := by
    rw [← hW4]
    exact ⟨heap_alloc_new w3 _, rfl⟩
  have t4 : Turn (fun _ => False) w3 w4 := by rw [← hW4]; exact (Turn.refl _ w3).alloc _
  have hsz4 : w4.heap.size = w3.heap.size + 1 := by rw [← hW4]; simp
  clear hW4 hz49
  obtain ⟨A, hA⟩ : ∃ A, w3.heap.size = A := ⟨_, rfl⟩
  rw [hA] at hA4 hsz4 ⊢
  have HA4 := Lib.hid hA4
  have hAw : w.heap.size ≤ A := by have := T3.size; omega
  have hJ4 := HJ3.out.turn0 t4
  have hnF4 : ¬ F3 A := fun h => by have := HJ3.out.jh.dh.2 A h; omega
  have hnJ4 : J ≠ A := by have := HJ3.out.jh.jat.lt; omega
  have hT4 : Tells (List.replicate (57 - 49) noughts) (List.replicate 8 0) ys := ⟨rfl, fun a ha => by
    rw [rep8 a ha, rep57 a ha]; rfl⟩
  have T4 := T3.trans t4 (fun _ _ => id)
  have HJ4 := Lib.hid hJ4
  have HT4 := Lib.hid hT4
  clear hA4 hJ4 hT4 HJ3 T3 t4 hA
  go_loopw [6, 9] (fun jv iv wr => ∃ j : Nat, j ≤ n ∧ iv = .int .i64 (j : Int) ∧ ∃ J F d L C lst, jv = .pointer (some ⟨J, 0, none⟩) ∧ JC wr F J D d L C (99900 - 400 * j) ∧ d.armed = false ∧ (∀ q, F q → w.heap.size ≤ q) ∧ w.heap.size ≤ J ∧ ¬ F A ∧ J ≠ A ∧ ArrAt wr A lst ∧ Tells C lst ys ∧ (∀ a, a < 8 → lst.getD a 0 ≤ 40) ∧ Turn (fun _ => False) w wr) (fun _ iv _ => (n - intOf iv).toNat)
  case atStart => exact ⟨0, Nat.zero_le _, rfl, J, F3, d3, L3, _, _, rfl, HJ4.out, HA3.out, hF3, hJw, hnF4, hnJ4, HA4.out, HT4.out, fun a ha => by rw [rep8 a ha]; omega, T4⟩
  case round =>
    clear HJ4 HA3 hF3 hJw hnF4 hnJ4 HA4 HT4 T4 hsz4 hL3 HD2
    obtain ⟨j, hj, rfl, Jr, Fr, dr, Lr, Cr, lst, rfl, hjr, har, hFr, hJr, hnF, hnJ, hAr, hTl, hlst, Tr⟩ := hrel
    have HJR := Lib.hid hjr
    have HAR := Lib.hid har
    have HAr := Lib.hid hAr
    have HTL := Lib.hid hTl
    have HLS := Lib.hid hlst
    clear hjr har hAr hTl hlst
    by_cases hlt : j < n
    · have hd1 : decide ((j : Int) < (n : Int)) = true := by simp; omega
      have hlr := HL.out.turn Tr (fun _ _ => id)
      obtain ⟨_, gl, ol', rfl, hcl⟩ := HQL.out (by omega)
      have hcj := (Tr.cell (p := ⟨gl, ol' + j, none⟩) (World.block_lt_of_cell? w _ (hcl j hlt)) id).trans (hcl j hlt)
      have hbm : xs.getD j 0 ∈ xs := by have := HN.out; simp [List.getD, show j < xs.length by omega]
      obtain ⟨b, hb⟩ := Int.eq_ofNat_of_zero_le (HOL.out _ hbm).1
      have hb256 := (HOL.out _ hbm).2
      have hw0 := hcl j hlt
      rw [hb] at hcj hb256 hw0
      have HW0 := Lib.hid hw0
      have hgl : gl < w.heap.size := World.block_lt_of_cell? w _ hw0
      clear hw0
      obtain ⟨a, ha⟩ : ∃ a, b % 8 = a := ⟨_, rfl⟩
      have ha8 : a < 8 := by omega
      have hmod : ((b : Int)).tmod 8 = (a : Int) := by rw [Int.tmod_eq_emod_of_nonneg (by omega)]; omega
      clear hb hbm hcl hlr ha
      have hu8 : ((j : Int) + 1) % 256 = (j : Int) + 1 := by omega
      have hnn : 99900 - 400 * j = (99900 - 400 * (j + 1) + 200) + 200 := by omega
      have hjr2 := HJR.out
      rw [hnn] at hjr2
      have HJR2 := Lib.hid hjr2
      clear hjr2 hnn
      have ta : Turn (fun _ => False) wr (wr.alloc (.cells #[.int .u8 ((j : Int) + 1)] 5)) := (Turn.refl _ wr).alloc _
      obtain ⟨v5, w5, hap, hop, tp, _⟩ := run_append_src (wr.alloc (.cells #[.int .u8 ((j : Int) + 1)] 5)) wr.heap.size (.slice (some ⟨wr.heap.size, 0, none⟩) 1 1) (.slice ap' ys.length cp) 1 [(j : Int) + 1] ys (own_one wr _) ((HP.out.turn Tr (fun _ _ => id)).turn ta (fun _ _ => id)) (by simp) (by omega)
      have tp5 : Turn (fun _ => False) wr w5 := ta.trans tp (fun q hq h => by have hq' : wr.heap.size = q := Option.some.inj h; omega)
      rw [Nat.add_comm 1 ys.length] at hop
      have hop' : w5.ownsRow wr.heap.size 5 1 v5 (((j : Int) + 1) :: ys).length ((((j : Int) + 1) :: ys).map (Value.int .u8)) := hop
      have HRD := Lib.hid (Reads.of_owns hop')
      obtain ⟨pa, pc, rfl, _, hpo⟩ := own_slice hop
      have HPO := Lib.hid hpo
      have HAP := Lib.hid hap
      clear hap hop hop' hpo tp ta
      go_wp2_with (at_builtin; refine Lib.wpList_append_run _ rfl _ _ _ _ rfl _ _ rfl rfl _ _ HAP.out ?_)
      have hpg := pages_one w5 (fun q => wr.heap.size ≤ q ∧ q < w5.heap.size + 1) (a : Int) (.slice pa (ys.length + 1) pc) (((j : Int) + 1) :: ys) (.inl HRD.out) (fun _ q hq => ⟨(HPO.out q hq).1, by have := (HPO.out q hq).2; omega⟩) ⟨tp5.size, by omega⟩
      have t6 := tp5.alloc (.cells #[.int .i64 (a : Int), .slice pa (ys.length + 1) pc] 46)
      have hsz6 : (w5.alloc (.cells #[.int .i64 (a : Int), .slice pa (ys.length + 1) pc] 46)).heap.size = w5.heap.size + 1 := by simp
      generalize w5.alloc (.cells #[.int .i64 (a : Int), .slice pa (ys.length + 1) pc] 46) = w6 at hpg t6 hsz6 ⊢
      have hJlt := HJR2.out.jh.jat.lt
      have hFl := HJR2.out.jh.dh.2
      refine (write_h w6 Fr _ Jr D dr Lr Cr (99900 - 400 * (j + 1) + 200) _ _ (HJR2.out.turn0 t6) HAR.out hpg (fun q hq => ⟨by omega, fun hF => by have := hFl q hF; omega, by omega⟩) (fun x hx' => by
        simp at hx'
        subst hx'
        intro y hy'
        rcases List.mem_cons.1 hy' with rfl | hy'
        · omega
        · exact HOP.out y hy') (by simp) (fits_one (by rw [HTL.out.1]; omega) (by simp; omega))).mono ?_
      rintro e w7 ⟨rfl, F7, d7, L7, hj7, ha7, hs7⟩
      have hcast : (j : Int) + 1 = ((j + 1 : Nat) : Int) := by omega
      rw [hcast] at hj7
      have hsz := Tr.size
      have T7 : Turn (fun _ => False) w w7 := (Tr.trans t6 (fun _ _ => id)).trans hs7.turn (fun q hq h => by
        rcases h with h | h
        · have := hFr q h; omega
        · omega)
      have hF7 : ∀ q, F7 q → w.heap.size ≤ q := fun q hq => by
        have := t6.size
        rcases hs7.grown q hq with h | h
        · exact hFr q h
        · omega
      have hAlt : A < wr.heap.size := (Array.getElem?_eq_some_iff.1 HAr.out.1).1
      have hnF7 : ¬ F7 A := hs7.out (by have := t6.size; omega) hnF
      have hA7 : ArrAt w7 A lst := (HAr.out.turn t6 id).turn hs7.turn (fun h => by
        rcases h with h | h
        · exact hnF h
        · exact hnJ h.symm)
      have hca := hA7.cell a ha8
      have hfa := hA7.free a
      have t8 : Turn (fun q => q = A) w7 (w7.setCell ⟨A, a, none⟩ (.int .i64 ((j : Int) + 1))) := turn_cell w7 A a _
      have hcj8 := (t8.cell (p := ⟨gl, ol' + j, none⟩) (Nat.lt_of_lt_of_le hgl T7.size) (by show ¬ gl = A; omega)).trans ((T7.cell (p := ⟨gl, ol' + j, none⟩) hgl id).trans HW0.out)
      have hA8 : ArrAt (w7.setCell ⟨A, a, none⟩ (.int .i64 ((j : Int) + 1))) A (lst.set a (j + 1)) := by rw [hcast]; exact hA7.set a (j + 1)
      have T8 : Turn (fun _ => False) w (w7.setCell ⟨A, a, none⟩ (.int .i64 ((j : Int) + 1))) := T7.trans t8 (fun q hq h => by omega)
      have hJn7 : Jr ≠ A := hnJ
      have HJ8 := Lib.hid (hj7.turnA t8 hnF7 hJn7)
      have HA8 := Lib.hid hA8
      have hls8 : ∀ c, c < 8 → (lst.set a (j + 1)).getD c 0 ≤ 40 := fun c hc => by
        have h1 := HLS.out c hc
        simp only [List.getD, List.getElem?_set] at h1 ⊢
        by_cases hac : a = c
        · subst hac
          rw [if_pos rfl]
          split <;> simp <;> omega
        · rw [if_neg hac]; exact h1
      have HTL7 := Lib.hid (HTL.out.next HAr.out.2 a (j + 1) ha8 (by omega))
      have HARM7 := Lib.hid ha7
      clear hj7 hA7 ha7 hs7 hpg t6 hsz6 tp5 HJR HJR2 HAR HTL hFl hJlt hcast
      by_cases h192 : 192 ≤ b
      · have hd9 : decide ((192 : Int) ≤ (b : Int)) = true := by simp; omega
        have hd9' : decide (192 ≤ b) = true := by simp; omega
        go_wp2_with fail
        obtain ⟨w8, hw8⟩ : ∃ w8, w7.setCell ⟨A, a, none⟩ (.int .i64 ((j : Int) + 1)) = w8 := ⟨_, rfl⟩
        rw [hw8] at HJ8 HA8 T8 ⊢
        clear hw8 t8 hcj8
        refine (crash_h w8 F7 D d7 L7 _ (99900 - 400 * (j + 1) + 200) _ ys HJ8.out.dc (HP.out.turn T8 (fun _ _ => id)) (fun h0 q hq hF => by have := HNP.out q hq h0; have := hF7 q hF; omega) HOP.out (by omega)).mono ?_
        rintro e w9 ⟨rfl, F9, d9, hd9, ha9, hs9⟩
        have HD9 := Lib.hid hd9
        have hlim := HJ8.out.lim
        have hA8l : A < w8.heap.size := (Array.getElem?_eq_some_iff.1 HA8.out.1).1
        clear hd9
        go_wp2_with fail
        refine (open_h w9 F9 D d9 L7 _ (99900 - 400 * (j + 1) + 100) HD9.out ha9 (by omega)).mono ?_
        rintro e w10 ⟨J10, F10, d10, L10, rfl, hj10, ha10, hJ10, hs10, _⟩
        have hs810 := hs9.trans hs10
        have HJ10 := Lib.hid (hj10.less (show 99900 - 400 * (j + 1) ≤ _ by omega))
        have hA10 : ArrAt w10 A (lst.set a (j + 1)) := HA8.out.turn hs810.turn hnF7
        have HA10 := Lib.hid hA10
        have hsz9 := hs9.turn.size
        have T10 : Turn (fun _ => False) w w10 := T8.trans hs810.turn (fun q hq h => by have := hF7 q h; omega)
        have hF10 : ∀ q, F10 q → w.heap.size ≤ q := fun q hq => by
          rcases hs810.grown q hq with h | h
          · exact hF7 q h
          · have := T8.size; omega
        have hnF10 : ¬ F10 A := hs810.out hA8l hnF7
        have hT8s := T8.size
        clear hj10 hA10 hs9 hs10 hs810
        go_wp2_with fail
        go_roundw
        case rel => exact ⟨j + 1, by omega, by go_num, J10, F10, d10, L10, _, _, rfl, HJ10.out, ha10, hF10, by omega, hnF10, by omega, HA10.out, HTL7.out, hls8, T10⟩
        case measure => simp [intOf]; omega
      · have hd9 : decide ((192 : Int) ≤ (b : Int)) = false := by simp; omega
        have hd9' : decide (192 ≤ b) = false := by simp; omega
        go_wp2_with fail
        go_roundw
        case rel => exact ⟨j + 1, by omega, by go_num, Jr, F7, d7, L7, _, _, rfl, HJ8.out.less (by omega), HARM7.out, hF7, hJr, hnF7, hnJ, HA8.out, HTL7.out, hls8, T8⟩
        case measure => simp [intOf]; omega
    · obtain rfl : j = n := by omega
      have hd1 : decide ((j : Int) < (j : Int)) = false := by simp
      obtain ⟨wz, hwz⟩ : ∃ wz, wz = wr := ⟨_, rfl⟩
      subst hwz
      go_wp2_with fail
      go_loopw [13] (fun iv ws => ∃ c : Nat, c ≤ 8 ∧ iv = .int .i64 (c : Int) ∧ Turn (fun _ => False) wz ws) (fun iv _ => (8 - intOf iv).toNat)
      case atStart => exact ⟨0, Nat.zero_le _, rfl, Turn.refl _ _⟩
      case round =>
        obtain ⟨c, hc, rfl, ts⟩ := hrel
        by_cases hc8 : c < 8
        · go_wp2_with fail
          refine (read_h wr Fr Jr D dr Lr Cr _ c (HJR.out.turn0 ts) (by rw [HTL.out.1]; exact hc8)).mono ?_
          rintro e wt ⟨B, rfl, _, _, hr, tt⟩
          rw [HTL.out.2 c hc8] at hr
          have Ts := ts.trans tt (fun _ _ => id)
          have td : Turn (fun _ => False) wt wt.drew := (Turn.refl _ wt).drew
          have hcA := ((HAr.out.turn Ts id).turn td id).cell c hc8
          have hle40 := HLS.out c hc8
          obtain ⟨x, hx'⟩ : ∃ x, lst.getD c 0 = x := ⟨_, rfl⟩
          rw [hx'] at hr hcA hle40
          have hrd := rangeAt_turn hr td id
          have T : Turn (fun _ => False) w wt := Tr.trans Ts (fun _ _ => id)
          clear hx'
          by_cases hx0 : x = 0
          · subst hx0
            have hq0 := sec_cell hrd 0 (by simp [secN, noughts])
            have hq0' : (secN ys 0).getD 0 0 = 0 := rfl
            rw [hq0'] at hq0
            have HTs := Lib.hid Ts
            clear hr hrd hq0' T tt ts Ts td
            go_wp2_with fail
            go_region
            go_wp2_with fail
            go_roundw
            case rel => exact ⟨c + 1, by omega, by go_num, HTs.out.drew⟩
            case measure => simp [intOf]; omega
          · have hsec : secN ys x = pad64 ((x : Int) :: ys) := by unfold secN; rw [if_neg hx0]
            rw [hsec] at hrd
            have hq0 := sec_cell hrd 0 (by rw [pad64_len _ (by simp; omega)]; omega)
            have hq0' : (pad64 ((x : Int) :: ys)).getD 0 0 = (x : Int) := rfl
            rw [hq0'] at hq0
            have hmid : Reads wt.drew (.slice (some ⟨B, 1, none⟩) ys.length 63) ys := by
              refine .inr ⟨B, 1, 63, rfl, hy, fun i hi => ?_⟩
              rw [sec_cell hrd (1 + i) (by rw [pad64_len _ (by simp; omega)]; omega)]
              simp [pad64, List.getD, List.getElem?_append, List.getElem?_cons, show 1 + i < ys.length + 1 by omega, show ¬ 1 + i = 0 by omega]
              rw [if_pos hi]
            have cv1 := Reads.conv hmid
            have cv2 := Src.conv ((HP.out.turn T (fun _ _ => id)).turn td (fun _ _ => id))
            have hpos : decide ((0 : Int) < (x : Int)) = true := by simp; omega
            have hpos' : decide (0 < x) = true := by simp; omega
            have hle1 : (0 : Int) ≤ 1 + (ys.length : Int) ∧ 1 + (ys.length : Int) ≤ 64 := by omega
            have hwr : IntKind.i64.wrap (1 + (ys.length : Int)) = 1 + (ys.length : Int) := by rw [IntKind.wrap_i64]; omega
            have htn : (1 + (ys.length : Int)).toNat = 1 + ys.length := by omega
            have hsub : 1 + ys.length - 1 = ys.length := by omega
            have HTs := Lib.hid Ts
            clear hr hrd hq0' T tt ts Ts td hmid hsec
            go_wp2_with fail
            go_region
            go_wp2_with fail
            go_roundw
            case rel => exact ⟨c + 1, by omega, by go_num, HTs.out.drew⟩
            case measure => simp [intOf]; omega
        · obtain rfl : c = 8 := by omega
          go_wp2_with fail
          go_ret
          exact ⟨rfl, Tr.trans ts (fun _ _ => id)⟩
set_option maxHeartbeats 1600000 in
set_option maxRecDepth 100000 in
theorem journalMany_walk (va vb : Value) (xs ys : List Int) (w : World) (ha : Src w va xs) (hb : Src w vb ys) (oa : BytesOk xs) (ob : BytesOk ys) (na : ∀ k, va.ownBlock = some k → 0 < xs.length → k < w.heap.size) (nb : ∀ k, vb.ownBlock = some k → 0 < ys.length → k < w.heap.size) :
    Calls Try.prog 6 #[va, vb] w (AwakePost w) := by
  by_cases hx : xs.length ≤ 40
  · by_cases hy : ys.length ≤ 63
    · exact many_walk va vb xs ys w ha hb oa ob nb hx hy
    · obtain ⟨aa, ca, rfl, _⟩ := src_any ha
      obtain ⟨ab, cb, rfl, _⟩ := src_any hb
      clear ha hb oa ob nb na
      have g1 : decide ((40 : Int) < (xs.length : Int)) = false := by simp; omega
      have g2 : decide (40 < xs.length) = false := by simp; omega
      have g3 : decide ((63 : Int) < (ys.length : Int)) = true := by simp; omega
      have g4 : decide (63 < ys.length) = true := by simp; omega
      go_enter Try.func6, Try.ntmps6
      go_wp2_with fail
      refine (awake_any w).mono ?_
      rintro e w1 ⟨rfl, t1⟩
      go_wp2_with fail
      refine (awake_any w1).mono ?_
      rintro e w2 ⟨rfl, t2⟩
      go_wp2_with fail
      go_ret
      exact ⟨rfl, t1.trans t2 (fun _ _ => id)⟩
  · obtain ⟨aa, ca, rfl, _⟩ := src_any ha
    clear ha hb oa ob nb na
    have g1 : decide ((40 : Int) < (xs.length : Int)) = true := by simp; omega
    have g2 : decide (40 < xs.length) = true := by simp; omega
    go_enter Try.func6, Try.ntmps6
    go_wp2_with fail
    refine (awake_any w).mono ?_
    rintro e w1 ⟨rfl, t1⟩
    go_wp2_with fail
    refine (awake_any w1).mono ?_
    rintro e w2 ⟨rfl, t2⟩
    go_wp2_with fail
    go_ret
    exact ⟨rfl, t1.trans t2 (fun _ _ => id)⟩
end Go.Proofs.Ytakmkkgpkbpbkaa
