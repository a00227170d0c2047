/- Own contract: the pages of an act. No statement is proved here. -/
import Derived.Test.YtakmkkgpkbpbkaaPutm
namespace Go.Proofs.Ytakmkkgpkbpbkaa
open Go.RowKit
set_option linter.unusedVariables false
set_option linter.unusedSimpArgs false
def bump (i : Nat) : List Int → List Int
  | [] => []
  | x :: xs => ((x + (i : Int)) % 256) :: xs
def actP (xa ps : List Int) (j : Nat) : List (Int × List Int) := (List.range j).map fun i => ((xa.getD i 0) % 12, bump i ps)
theorem actP_next (xa ps : List Int) (j : Nat) : actP xa ps (j + 1) = actP xa ps j ++ [((xa.getD j 0) % 12, bump j ps)] := by simp [actP, List.range_succ]
theorem actP_len (xa ps : List Int) (j : Nat) : (actP xa ps j).length = j := by simp [actP]
theorem clone_bump (wr : World) (pv : Value) (ps : List Int) (hv : Src wr pv ps) (hl : ps.length ≤ 64) :
    ∃ v1 w1, (Builtin.append_ #[31, 31] 31 #[.slice none 0 0, pv]).run Try.prog wr = .ok v1 w1 ∧ Turn (fun _ => False) wr w1 ∧ (∀ q, v1.ownBlock = some q → wr.heap.size ≤ q) ∧ (∀ q, v1.ownBlock = some q → q < w1.heap.size) ∧
      ((ps = [] ∧ ∃ a c, v1 = .slice a 0 c ∧ Reads w1 v1 []) ∨ ∃ g c x t, ps = x :: t ∧ v1 = .slice (some ⟨g, 0, none⟩) (t.length + 1) c ∧ wr.heap.size ≤ g ∧ g < w1.heap.size ∧ w1.cell? ⟨g, 0, none⟩ = some (.int .u8 x) ∧ w1.frozen? ⟨g, 0, none⟩ = false ∧ ∀ y, Reads (w1.setCell ⟨g, 0, none⟩ (.int .u8 y)) v1 (y :: t)) := by
  obtain ⟨v1, w1, hr, ho, hf, ht⟩ := app_first wr pv ps hv hl
  refine ⟨v1, w1, hr, ht, hf, fun q hq => (ho.lt q hq).2, ?_⟩
  have hrd := Reads.of_owns ho
  cases ps with
  | nil =>
    obtain ⟨a, c, h1, _, _⟩ := own_slice ho
    exact .inl ⟨rfl, a, c, h1, hrd⟩
  | cons x t =>
    right
    rcases ho.2 with ⟨_, h0⟩ | ⟨g, cap, cur, rfl, _, hg, hnc, hcm, hcs, htk⟩
    · simp at h0
    · rcases hrd with ⟨h, _⟩ | ⟨g', o', cap', he, hc', hcell⟩
      · cases h
      · cases he
        have hglt : g < w1.heap.size := (Array.getElem?_eq_some_iff.1 hg).1
        refine ⟨g, cap, x, t, rfl, rfl, hf g rfl, hglt, by simpa using hcell 0 (by simp), frozen_of_row w1 g 0 _ 5 hg, fun y => .inr ⟨g, 0, cap, rfl, hnc, fun i hi => ?_⟩⟩
        cases i with
        | zero =>
          have h9 := hcell 0 (by simp)
          rw [Nat.zero_add] at h9 ⊢
          rw [World.cell?_setCell_same _ _ _ h9]
          simp
        | succ i =>
          have := hcell (i + 1) (by simpa using hi)
          rw [World.cell?_setCell_other _ _ _ _ (by intro h; have := congrArg Addr.off h; simp at this)]
          simpa using this

set_option maxHeartbeats 1600000 in
set_option maxRecDepth 100000 in
theorem pages_any (w : World) (aa pa : Option Addr) (ca pc Lp : Nat) (sv mv : Value) (xa ps : List Int) (hA : Src w (.slice aa xa.length ca) xa) (hP : Src w (.slice pa Lp pc) ps) (oa : BytesOk xa) (op : BytesOk ps) (hp : ps.length ≤ 64) (hLp : ps.length = Lp) (m : Nat) (hm : m = min xa.length 10) :
    Calls Try.prog 11 #[.agg #[.slice aa xa.length ca, .slice pa Lp pc, sv, mv]] w (fun e w' => ∃ v, e = .returned v ∧ PagesIn w' (fun k => w.heap.size + 1 ≤ k ∧ k < w'.heap.size) v (actP xa ps m) ∧ Turn (fun _ => False) w w') := by
  obtain ⟨i0, hi, hz0, hz1, hz2⟩ := info_parts Try.info46
  have hz46 := zero46
  have HA := Lib.hid hA
  have HP := Lib.hid hP
  have HOA := Lib.hid oa
  have HOP := Lib.hid op
  have tz : Turn (fun _ => False) w (w.alloc (.cells #[.slice aa xa.length ca, .slice pa Lp pc, sv, mv] 33)) := (Turn.refl _ w).alloc _
  have hzn := heap_alloc_new w (.cells #[.slice aa xa.length ca, .slice pa Lp pc, sv, mv] 33)
  have hszz : (w.alloc (.cells #[.slice aa xa.length ca, .slice pa Lp pc, sv, mv] 33)).heap.size = w.heap.size + 1 := by simp
  obtain ⟨wz, hwz⟩ : ∃ wz, w.alloc (.cells #[.slice aa xa.length ca, .slice pa Lp pc, sv, mv] 33) = wz := ⟨_, rfl⟩
  rw [hwz] at tz hzn hszz
  have hz1c : wz.cell? ⟨w.heap.size, 0, none⟩ = some (.slice aa xa.length ca) := by rw [cell_of_row _ _ _ _ 33 (0, 0) hzn]; rfl
  have hz2c : wz.cell? ⟨w.heap.size, 1, none⟩ = some (.slice pa Lp pc) := by rw [cell_of_row _ _ _ _ 33 (0, 0) hzn]; rfl
  have HSZ := Lib.hid hszz
  have HLP := Lib.hid hLp
  have hm1 : m ≤ xa.length ∧ m ≤ 10 ∧ (m = xa.length ∨ m = 10) := by omega
  clear hLp hm
  clear hA hP oa op hzn hszz
  go_enter Try.func11, Try.ntmps11
  go_wp2_with fail
  clear hwz
  go_loopw [3, 4] (fun ov iv wr => ∃ j : Nat, j ≤ m ∧ iv = .int .i64 (j : Int) ∧ ∃ pq, actP xa ps j = pq.map (fun p => (p.1, p.2.2)) ∧ PsOk wz wr ov pq ∧ wr.ownsRow wz.heap.size 46 2 ov j (flatP pq) ∧ Turn (fun _ => False) wz wr) (fun _ iv _ => (m - intOf iv).toNat)
  case atStart => exact ⟨0, Nat.zero_le _, rfl, [], rfl, (fun p hp => by simp at hp), World.ownsRow_nil _ _ _ _, Turn.refl _ _⟩
  case round =>
    obtain ⟨j, hj, rfl, pq, hl, hps, ho, tr⟩ := hrel
    have HL := Lib.hid hl
    have HPS := Lib.hid hps
    have HO := Lib.hid ho
    clear hl hps ho
    have c1 : wr.cell? ⟨w.heap.size, 0, none⟩ = some (.slice aa xa.length ca) := (tr.cell (p := ⟨w.heap.size, 0, none⟩) (by show w.heap.size < _; have := HSZ.out; omega) id).trans hz1c
    have c2 : wr.cell? ⟨w.heap.size, 1, none⟩ = some (.slice pa Lp pc) := (tr.cell (p := ⟨w.heap.size, 1, none⟩) (by show w.heap.size < _; have := HSZ.out; omega) id).trans hz2c
    by_cases hlt : j < m
    · have hd1 : (j : Int) < (xa.length : Int) := by omega
      have hd2 : (j : Int) < 10 := by omega
      have TWR := tz.trans tr (fun _ _ => id)
      obtain ⟨v1, w1, hr, ta, hk1, hk2, hcase⟩ := clone_bump wr _ ps (HP.out.turn TWR (fun _ _ => id)) hp
      have HR := Lib.hid hr
      have hra := HA.out.turn TWR (fun _ _ => id)
      rcases hra with (⟨h, h0⟩ | ⟨ga, oa, cap', he, hc', hcell'⟩) | ⟨x9, c9, h, h0⟩
      rotate_left
      rotate_left
      · rw [h0] at hd1; simp at hd1; omega
      · rw [h0] at hd1; simp at hd1; omega
      cases he
      have HAW := Lib.hid hcell'
      have hcell : ∀ i, i < xa.length → w1.cell? ⟨ga, oa + i, none⟩ = some (.int .u8 (xa.getD i 0)) := fun i hi => (ta.cell (p := ⟨ga, oa + i, none⟩) (World.block_lt_of_cell? _ _ (hcell' i hi)) id).trans (hcell' i hi)
      clear hcell'
      have hz := hcell j (by omega)
      have hzw : wr.cell? ⟨ga, oa + j, none⟩ = some (.int .u8 (xa.getD j 0)) := HAW.out j (by omega)
      have hzb := HOA.out (xa.getD j 0) (by simp [List.getD, show j < xa.length by omega])
      obtain ⟨z, hzz⟩ : ∃ z, xa.getD j 0 = z := ⟨_, rfl⟩
      rw [hzz] at hz hzb hzw
      have HZ := Lib.hid hzz
      have hwrs := TWR.size
      have c11 : w1.cell? ⟨w.heap.size, 0, none⟩ = some (.slice (some ⟨ga, oa, none⟩) xa.length ca) := (ta.cell (p := ⟨w.heap.size, 0, none⟩) (by show w.heap.size < _; have := tr.size; have := HSZ.out; omega) id).trans c1
      have hiw : IntKind.u8.wrap (j : Int) = (j : Int) := by rw [IntKind.wrap_u8]; omega
      have gz : (0 : Int) ≤ (j : Int) ∧ (j : Int) < (xa.length : Int) := by omega
      clear hcell hzz hr
      rcases hcase with ⟨rfl, a1, c1', rfl, hrd⟩ | ⟨g, cg, x, t, rfl, rfl, hg1, hg2, hgx, hgf, hrd⟩
      · rw [show ([] : List Int) = bump j [] from rfl] at hrd
        obtain ⟨y, hy⟩ : ∃ y, z % 12 = y := ⟨_, rfl⟩
        have hmodj : z.tmod 12 = y := by rw [Int.tmod_eq_emod_of_nonneg (by omega)]; exact hy
        have HY := Lib.hid hy
        have tb : Turn (fun _ => False) w1 (w1.alloc (.cells #[.int .i64 y, (.slice a1 0 c1')] 46)) := (Turn.refl _ w1).alloc _
        have hnb := heap_alloc_new w1 (.cells #[.int .i64 y, (.slice a1 0 c1')] 46)
        have hszb : (w1.alloc (.cells #[.int .i64 y, (.slice a1 0 c1')] 46)).heap.size = w1.heap.size + 1 := by simp
        have hnews : ∀ (q : Nat) u, [Value.int .i64 y, (.slice a1 0 c1')][q]? = some u → (w1.alloc (.cells #[.int .i64 y, (.slice a1 0 c1')] 46)).cell? ((⟨w1.heap.size, 0, none⟩ : Addr).add q) = some u := by
          intro q u hq
          rw [Addr.add_mid, Nat.zero_add, cell_of_row _ _ _ _ 46 (0, 0) hnb]
          simpa using hq
        have HNW := Lib.hid hnews
        have tab := ta.trans tb (fun _ _ => id)
        have HOB := Lib.hid (tab.owns HO.out (fun _ _ => id))
        have HRD := Lib.hid (hrd.turn tb (fun _ _ => id))
        have hyb : 0 ≤ y ∧ y < 12 := by omega
        clear hnews hnb hrd hy
        have hwy : IntKind.i64.wrap y = y := by rw [IntKind.wrap_i64]; omega
        have hwy8 : IntKind.u8.wrap y = y := by rw [IntKind.wrap_u8]; omega
        go_wp2_with (at_builtin; first | (refine Lib.wpList_append_run _ rfl _ _ _ _ rfl _ _ rfl rfl _ _ HR.out ?_) | (refine wpList_append_where _ rfl (.tmp 30) (.tmp 40) 34 rfl wz.heap.size 46 i0 (.agg #[.int .i64 0, .slice none 0 0]) 2 32 Try.underlying34 hi hz0 hz1 hz2 rfl (by decide) _ j (flatP pq) rfl HOB.out ⟨w1.heap.size, 0, none⟩ 1 1 [.int .i64 y, (.slice a1 0 c1')] rfl rfl HNW.out (fun u hu => by simp at hu; rcases hu with rfl | rfl <;> rfl) ?d3 ?d4 ?d5 ?_))
        case d3 => unfold maxLen; omega
        case d4 => omega
        case d5 => have h1 := tr.size; have h2 := tab.size; omega
        intro v5 w5' ho5 hg5 hf5 _
        have t5' : Turn (fun q => u3.ownBlock = some q) _ w5' := (Turn.refl (fun q => u3.ownBlock = some q) _).grown hg5 (fun q h _ => h)
        have HPOST := Lib.hid (page_step HL.out HPS.out HO.out tr tab t5' hf5 ho5 HRD.out hk1 (fun q hq => by have := hk2 q hq; omega))
        clear ho5 hg5 hf5 hmodj
        go_wp2_with fail
        obtain ⟨T5', ps', hl', hps', ho'⟩ := HPOST.out
        have hfin : actP xa [] (j + 1) = ps'.map (fun p => (p.1, p.2.2)) := by rw [actP_next, HZ.out, HY.out]; exact hl'
        go_roundw
        case rel => exact ⟨j + 1, by omega, by go_num, ps', hfin, hps', ho', T5'⟩
        case measure => simp [intOf]; omega
      · have hx9 := HOP.out x (by simp)
        have hxw : IntKind.u8.wrap (x + (j : Int)) = (x + (j : Int)) % 256 := by rw [IntKind.wrap_u8]
        have tS : Turn (fun q => q = g) w1 (w1.setCell ⟨g, 0, none⟩ (.int .u8 ((x + (j : Int)) % 256))) := Turn.setCell (S := fun q => q = g) (Turn.refl _ w1) (p := ⟨g, 0, none⟩) (fun _ => rfl) _
        have ta' : Turn (fun _ => False) wr (w1.setCell ⟨g, 0, none⟩ (.int .u8 ((x + (j : Int)) % 256))) := ta.trans tS (fun q hq e9 => by omega)
        have hrd := hrd ((x + (j : Int)) % 256)
        rw [show ((x + (j : Int)) % 256) :: t = bump j (x :: t) from rfl] at hrd
        have hgw : g ≠ w.heap.size := by have := tr.size; have := HSZ.out; omega
        have hga : g ≠ ga := by have := World.block_lt_of_cell? _ _ hzw; dsimp only at this; omega
        have hk2' : ∀ q, (Value.slice (some ⟨g, 0, none⟩) (t.length + 1) cg).ownBlock = some q → q < (w1.setCell ⟨g, 0, none⟩ (.int .u8 ((x + (j : Int)) % 256))).heap.size := fun q hq => Nat.lt_of_lt_of_le (hk2 q hq) tS.size
        have c11' : (w1.setCell ⟨g, 0, none⟩ (.int .u8 ((x + (j : Int)) % 256))).cell? ⟨w.heap.size, 0, none⟩ = some (.slice (some ⟨ga, oa, none⟩) xa.length ca) := by rw [World.cell?_setCell_far _ _ _ _ hgw]; exact c11
        have hz' : (w1.setCell ⟨g, 0, none⟩ (.int .u8 ((x + (j : Int)) % 256))).cell? ⟨ga, oa + j, none⟩ = some (.int .u8 z) := by rw [World.cell?_setCell_far _ _ _ _ hga]; exact hz
        obtain ⟨w2, hw2⟩ : ∃ w2, w1.setCell ⟨g, 0, none⟩ (.int .u8 ((x + (j : Int)) % 256)) = w2 := ⟨_, rfl⟩
        rw [hw2] at ta' hrd hk2' c11' hz'
        have hk2 := hk2'
        have ta := ta'
        clear tS ta' hk2'
        have hl0 : (0 : Int) < (t.length : Int) + 1 := by omega
        obtain ⟨y, hy⟩ : ∃ y, z % 12 = y := ⟨_, rfl⟩
        have hmodj : z.tmod 12 = y := by rw [Int.tmod_eq_emod_of_nonneg (by omega)]; exact hy
        have HY := Lib.hid hy
        have tb : Turn (fun _ => False) w2 (w2.alloc (.cells #[.int .i64 y, (.slice (some ⟨g, 0, none⟩) (t.length + 1) cg)] 46)) := (Turn.refl _ w2).alloc _
        have hnb := heap_alloc_new w2 (.cells #[.int .i64 y, (.slice (some ⟨g, 0, none⟩) (t.length + 1) cg)] 46)
        have hszb : (w2.alloc (.cells #[.int .i64 y, (.slice (some ⟨g, 0, none⟩) (t.length + 1) cg)] 46)).heap.size = w2.heap.size + 1 := by simp
        have hnews : ∀ (q : Nat) u, [Value.int .i64 y, (.slice (some ⟨g, 0, none⟩) (t.length + 1) cg)][q]? = some u → (w2.alloc (.cells #[.int .i64 y, (.slice (some ⟨g, 0, none⟩) (t.length + 1) cg)] 46)).cell? ((⟨w2.heap.size, 0, none⟩ : Addr).add q) = some u := by
          intro q u hq
          rw [Addr.add_mid, Nat.zero_add, cell_of_row _ _ _ _ 46 (0, 0) hnb]
          simpa using hq
        have HNW := Lib.hid hnews
        have tab := ta.trans tb (fun _ _ => id)
        have HOB := Lib.hid (tab.owns HO.out (fun _ _ => id))
        have HRD := Lib.hid (hrd.turn tb (fun _ _ => id))
        have hyb : 0 ≤ y ∧ y < 12 := by omega
        clear hnews hnb hrd hy
        have hwy : IntKind.i64.wrap y = y := by rw [IntKind.wrap_i64]; omega
        have hwy8 : IntKind.u8.wrap y = y := by rw [IntKind.wrap_u8]; omega
        go_wp2_with (at_builtin; first | (refine Lib.wpList_append_run _ rfl _ _ _ _ rfl _ _ rfl rfl _ _ HR.out ?_) | (refine wpList_append_where _ rfl (.tmp 30) (.tmp 40) 34 rfl wz.heap.size 46 i0 (.agg #[.int .i64 0, .slice none 0 0]) 2 32 Try.underlying34 hi hz0 hz1 hz2 rfl (by decide) _ j (flatP pq) rfl HOB.out ⟨w2.heap.size, 0, none⟩ 1 1 [.int .i64 y, (.slice (some ⟨g, 0, none⟩) (t.length + 1) cg)] rfl rfl HNW.out (fun u hu => by simp at hu; rcases hu with rfl | rfl <;> rfl) ?d3 ?d4 ?d5 ?_))
        case d3 => unfold maxLen; omega
        case d4 => omega
        case d5 => have h1 := tr.size; have h2 := tab.size; omega
        intro v5 w5' ho5 hg5 hf5 _
        have t5' : Turn (fun q => u3.ownBlock = some q) _ w5' := (Turn.refl (fun q => u3.ownBlock = some q) _).grown hg5 (fun q h _ => h)
        have HPOST := Lib.hid (page_step HL.out HPS.out HO.out tr tab t5' hf5 ho5 HRD.out hk1 (fun q hq => by have := hk2 q hq; omega))
        clear ho5 hg5 hf5 hmodj
        go_wp2_with fail
        obtain ⟨T5', ps', hl', hps', ho'⟩ := HPOST.out
        have hfin : actP xa (x :: t) (j + 1) = ps'.map (fun p => (p.1, p.2.2)) := by rw [actP_next, HZ.out, HY.out]; exact hl'
        go_roundw
        case rel => exact ⟨j + 1, by omega, by go_num, ps', hfin, hps', ho', T5'⟩
        case measure => simp [intOf]; omega
    · obtain rfl : j = m := by omega
      have hpg := pages_of HL.out HPS.out HO.out
      rw [HSZ.out] at hpg
      have HPG := Lib.hid hpg
      have HT := Lib.hid (tz.trans tr (fun _ _ => id))
      clear hpg
      by_cases hd1 : (j : Int) < (xa.length : Int)
      · have hd2 : ¬ (j : Int) < 10 := by omega
        go_wp2_with fail
        go_ret
        exact ⟨u3, rfl, HPG.out, HT.out⟩
      · go_wp2_with fail
        go_ret
        exact ⟨u3, rfl, HPG.out, HT.out⟩
end Go.Proofs.Ytakmkkgpkbpbkaa
