/- Own contracts: the bytes of a chart, the document. No statement is proved here. -/
import Derived.Test.YtokjlhpkjebnkaaChk
import Derived.Test.YtokjlhpkjebnkaaEn
import Derived.Test.YtokjlhpkjebnkaaRef
import Derived.Test.YtokjlhpkjebnkaaText
namespace Go.Proofs.Ytokjlhpkjebnkaa
set_option maxRecDepth 100000
open Go.RowKit
set_option linter.unusedVariables false
set_option linter.unusedSimpArgs false


theorem app_bytes (w : World) (base : Nat) (v u : Value) (xs ys : List Int) (ho : w.ownsRow base 5 1 v xs.length (xs.map (Value.int .u8))) (hu : Src w u ys) (hb : base ≤ w.heap.size) (hl : xs.length + ys.length ≤ 1000000) :
    ∃ v' w', (Builtin.append_ #[49, 49] 49 #[v, u]).run Try.prog w = .ok v' w' ∧ w'.ownsRow base 5 1 v' (xs ++ ys).length ((xs ++ ys).map (Value.int .u8)) ∧ Turn (fun q => v.ownBlock = some q) w w' ∧ Fresh w v v' := by
  obtain ⟨i0, hi, hz0, hz1, hz2⟩ := info_parts Try.info5
  by_cases hnil : u = .slice none 0 0
  · subst hnil
    have hy : ys = [] := by
      rcases hu with (⟨_, h⟩ | ⟨_, _, _, h, _⟩) | ⟨_, _, h, _⟩
      · exact h
      · cases h
      · cases h
    subst hy
    refine ⟨v, w, ?_, by simpa using ho, Turn.refl _ _, Fresh.refl _ _⟩
    rcases ho.2 with ⟨rfl, h0⟩ | ⟨g, cap, cur, rfl, _, _, hnc, _⟩
    · simp [Builtin.append_, run_underlying Try.underlying49, sizeOf, typeInfo, hi, Builtin.lenOf, Builtin.firstCells, h0]
    · simp [Builtin.append_, run_underlying Try.underlying49, sizeOf, typeInfo, hi, Builtin.lenOf, Builtin.firstCells, hnc, storeCells]
  · obtain ⟨x, c, rfl⟩ : ∃ x c, u = .slice (some x) ys.length c := by
      rcases hu with (⟨h, _⟩ | ⟨g, o, c, h, _⟩) | ⟨x, c, h, rfl⟩
      · exact absurd h hnil
      · exact ⟨_, _, h⟩
      · exact ⟨_, _, h⟩
    obtain ⟨v', w', hr, q1, q2, q3⟩ := run_append_own (P := Try.prog) w base 49 49 5 i0 _ 1 1 Try.underlying49 hi hz0 hz1 hz2 (by rfl) (by decide) v xs.length _ ho x ys.length c (ys.map (Value.int .u8)) (by simp) (src_cells0 hu) (fun t ht => by obtain ⟨n, _, rfl⟩ := List.mem_map.1 ht; rfl) (by unfold maxLen; omega) (by omega) hb
    refine ⟨v', w', hr, by rw [List.length_append, List.map_append]; exact q1, (Turn.refl (fun q => v.ownBlock = some q) w).grown q2 (fun k h _ => h), run_append_where (P := Try.prog) w 49 49 5 i0 _ 1 1 Try.underlying49 hi hz0 hz1 hz2 (by rfl) (by decide) base v xs.length _ ho x ys.length c (ys.map (Value.int .u8)) (by simp) (src_cells0 hu) (fun t ht => by obtain ⟨n, _, rfl⟩ := List.mem_map.1 ht; rfl) (by unfold maxLen; omega) (by omega) v' w' hr⟩
theorem app_mark (w : World) (base : Nat) (p : Value) (u : Value) (ys : List Int) (hp : Src w p [67, 49]) (hpv : ∃ x, p = .slice (some x) 2 2) (hu : Src w u ys) (hy : 0 < ys.length) (hb : base ≤ w.heap.size) (hl : ys.length ≤ 1000000) :
    ∃ v' w', (Builtin.append_ #[49, 49] 49 #[p, u]).run Try.prog w = .ok v' w' ∧ w'.ownsRow base 5 1 v' ([67, 49] ++ ys).length (([67, 49] ++ ys).map (Value.int .u8)) ∧ Turn (fun _ => False) w w' := by
  obtain ⟨i0, hi, hz0, hz1, hz2⟩ := info_parts Try.info5
  obtain ⟨b, rfl⟩ := hpv
  obtain ⟨x, c, rfl⟩ : ∃ x c, u = .slice (some x) ys.length c := by
    rcases hu with (⟨h, e⟩ | ⟨g, o, c, h, _⟩) | ⟨x, c, h, rfl⟩
    · subst e; simp at hy
    · exact ⟨_, _, h⟩
    · exact ⟨_, _, h⟩
  have hr := run_append_grow (P := Try.prog) w 49 49 5 i0 (.int .u8 0) Try.underlying49 hi hz0 b 2 2 ([67, 49].map (Value.int .u8)) (by rw [hz1]; rfl) (src_cells0 (xs := [67, 49]) hp) x ys.length c (ys.map (Value.int .u8)) (by rw [hz1]; simp) (src_cells0 hu) (by omega) (by omega) (growslice_fits (by omega) (by rw [hz2]; omega))
  have hge := grownCap_ge w (2 + ys.length) 2 5
  have hcm : grownCap w (2 + ys.length) 2 5 ≤ maxLen := grownCap_le_maxLen w (2 + ys.length) 2 5 (by unfold maxLen; omega)
  refine ⟨_, _, hr, ⟨by simp, .inr ⟨w.heap.size, grownCap w (2 + ys.length) 2 5, _, ?_, hb, heap_alloc_new w.drew _, ?_, hcm, ?_, ?_⟩⟩, (Turn.refl _ w).drew.alloc _⟩
  · simp; omega
  · simp; omega
  · simp [size_zeroCells, Value.cells]; omega
  · simp only [Array.toList_append, List.append_assoc]
    rw [← List.append_assoc, List.take_append_of_le_length (by simp), List.take_of_length_le (by simp)]
    simp
theorem build_n6 (a b c d e f : Int) (w : World) : (Instr.buildSlice 43 6 #[(0, .int .i64 a), (1, .int .i64 b), (2, .int .i64 c), (3, .int .i64 d), (4, .int .i64 e), (5, .int .i64 f)]).run Try.prog w = .ok (.slice (some ⟨w.heap.size, 0, none⟩) 6 6) (w.alloc (.cells [Value.int .i64 a, .int .i64 b, .int .i64 c, .int .i64 d, .int .i64 e, .int .i64 f].toArray 3)) := by
  obtain ⟨i0, hi, hz0, hz1, hz2⟩ := info_parts info3p
  refine run_buildSlice (P := Try.prog) w 43 3 6 _ _ i0 _ Try.underlying43 hi hz0 (by rw [hz1]; decide) (by rw [hz1]; decide) ?_
  rw [hz1]
  kernel_rfl
def nums6 (a : Int) (x : El) : List Int := [x.id - a, x.kind, x.par, x.ord, x.frm, x.to]
def texts4 (x : El) : List ByteArray := [x.name, x.ev, x.gd, x.ac]
def partN (a : Int) (x : El) (i : Nat) : List Int := ((nums6 a x).take i).flatMap fun n => numB n.toNat
def partT (x : El) (i : Nat) : List Int := ((texts4 x).take i).flatMap textB
theorem part_elem (a : Int) (x : El) : elemB a x = partN a x 6 ++ partT x 4 := by
  simp [elemB, partN, partT, nums6, texts4, List.append_assoc]
theorem partN_succ (a : Int) (x : El) (i : Nat) (h : i < 6) : partN a x (i + 1) = partN a x i ++ numB ((nums6 a x).getD i 0).toNat := by
  rcases (by omega : i = 0 ∨ i = 1 ∨ i = 2 ∨ i = 3 ∨ i = 4 ∨ i = 5) with rfl | rfl | rfl | rfl | rfl | rfl <;> simp [partN, nums6]
theorem partT_succ (x : El) (i : Nat) (h : i < 4) : partT x (i + 1) = partT x i ++ textB ((texts4 x).getD i e0) := by
  rcases (by omega : i = 0 ∨ i = 1 ∨ i = 2 ∨ i = 3) with rfl | rfl | rfl | rfl <;> simp [partT, texts4]
theorem row_n6 (w : World) (a : Int) (x : El) : ∃ w', (∀ ev op x0 x1 x2 x3 x4 x5, op.op = .buildSlice 43 6 #[(0, x0), (1, x1), (2, x2), (3, x3), (4, x4), (5, x5)] → ev x0 = .int .i64 (x.id - a) → ev x1 = .int .i64 x.kind → ev x2 = .int .i64 x.par → ev x3 = .int .i64 x.ord → ev x4 = .int .i64 x.frm → ev x5 = .int .i64 x.to → (execOp ev op).run Try.prog w = .ok (.value (.slice (some ⟨w.heap.size, 0, none⟩) 6 6)) w') ∧ Box w w' 3 ((nums6 a x).map (Value.int .i64)) := by
  refine ⟨_, fun ev op x0 x1 x2 x3 x4 x5 ho h0 h1 h2 h3 h4 h5 => ?_, box_alloc w 3 ((nums6 a x).map (Value.int .i64))⟩
  unfold execOp
  simp only [ho, List.map_toArray, List.map_cons, List.map_nil, h0, h1, h2, h3, h4, h5, Sem.run_bind, Sem.run_pure, build_n6, Result.andThen_ok, nums6]
theorem row_t4 (w : World) (x : El) : ∃ w', (∀ ev op x0 x1 x2 x3, op.op = .buildSlice 68 4 #[(0, x0), (1, x1), (2, x2), (3, x3)] → ev x0 = .string x.name → ev x1 = .string x.ev → ev x2 = .string x.gd → ev x3 = .string x.ac → (execOp ev op).run Try.prog w = .ok (.value (.slice (some ⟨w.heap.size, 0, none⟩) 4 4)) w') ∧ Box w w' 9 ((texts4 x).map Value.string) := by
  refine ⟨_, fun ev op x0 x1 x2 x3 ho h0 h1 h2 h3 => ?_, box_alloc w 9 ((texts4 x).map Value.string)⟩
  unfold execOp
  simp only [ho, List.map_toArray, List.map_cons, List.map_nil, h0, h1, h2, h3, Sem.run_bind, Sem.run_pure, build_s4, Result.andThen_ok, texts4]
/-- Bytes that grow, beside an element and a row. -/
structure ByS (w W : World) (pv : Value) (YS : List Int) (E : Nat) (x : El) (B : Nat) (T : TypeId) (rv : List Value) : Prop where
  own : W.ownsRow w.heap.size 5 1 pv YS.length (YS.map (Value.int .u8))
  t : Turn (fun _ => False) w W
  he : W.heap[E]? = some (.cells x.vals.toArray 24 (0, 0))
  hb : W.heap[B]? = some (.cells rv.toArray T (0, 0))
  ne : ∀ q, pv.ownBlock = some q → q ≠ E ∧ q ≠ B
theorem ByS.turn {w W W' : World} {pv : Value} {YS : List Int} {E : Nat} {x : El} {B : Nat} {T : TypeId} {rv : List Value} (h : ByS w W pv YS E x B T rv) (t : Turn (fun _ => False) W W') : ByS w W' pv YS E x B T rv :=
  ⟨t.owns h.own (fun _ _ => id), h.t.trans t (fun _ _ => id), (t.block E (Array.getElem?_eq_some_iff.1 h.he).1 id).trans h.he, (t.block B (Array.getElem?_eq_some_iff.1 h.hb).1 id).trans h.hb, h.ne⟩
theorem ByS.app {w W : World} {pv u : Value} {YS ys : List Int} {E : Nat} {x : El} {B : Nat} {T : TypeId} {rv : List Value} (h : ByS w W pv YS E x B T rv) (hu : Src W u ys) (hl : YS.length + ys.length ≤ 1000000) :
    ∃ v' w', (Builtin.append_ #[49, 49] 49 #[pv, u]).run Try.prog W = .ok v' w' ∧ ByS w w' v' (YS ++ ys) E x B T rv := by
  obtain ⟨v', w', hr, ho, t, hf⟩ := app_bytes W w.heap.size pv u YS ys h.own hu h.t.size hl
  refine ⟨v', w', hr, ho, h.t.trans t (fun i hi hv => by have := (h.own.lt i hv).1; omega), (t.block E (Array.getElem?_eq_some_iff.1 h.he).1 (fun e => (h.ne E e).1 rfl)).trans h.he, (t.block B (Array.getElem?_eq_some_iff.1 h.hb).1 (fun e => (h.ne B e).2 rfl)).trans h.hb, fun q hq => ?_⟩
  rcases hf with e | ⟨g, e, hg⟩
  · exact h.ne q (e ▸ hq)
  · rw [e] at hq
    cases hq
    have h1 := (Array.getElem?_eq_some_iff.1 h.he).1
    have h2 := (Array.getElem?_eq_some_iff.1 h.hb).1
    exact ⟨by omega, by omega⟩
theorem ByS.row {w W : World} {pv : Value} {YS : List Int} {E : Nat} {x : El} {B : Nat} {T : TypeId} {rv : List Value} (h : ByS w W pv YS E x B T rv) (j : Nat) (v : Value) (hj : rv[j]? = some v) : W.cell? ⟨B, j, none⟩ = some v := by rw [cell_of_row W B j _ T (0, 0) h.hb]; simpa using hj
theorem nums6_at (a : Int) (x : El) (k : Nat) (hk : k < 6) : ((nums6 a x).map (Value.int .i64))[k]? = some (.int .i64 ((nums6 a x).getD k 0)) := by
  rcases (by omega : k = 0 ∨ k = 1 ∨ k = 2 ∨ k = 3 ∨ k = 4 ∨ k = 5) with rfl | rfl | rfl | rfl | rfl | rfl <;> rfl
theorem texts4_at (x : El) (k : Nat) (hk : k < 4) : ((texts4 x).map Value.string)[k]? = some (.string ((texts4 x).getD k e0)) := by
  rcases (by omega : k = 0 ∨ k = 1 ∨ k = 2 ∨ k = 3) with rfl | rfl | rfl | rfl <;> rfl
theorem turn_on5 {w0 w w' : World} {base : Nat} {v : Value} {n : Nat} {xs : List Value} (h : w.ownsRow base 5 1 v n xs) (hb : w0.heap.size ≤ base) (t : Turn (fun _ => False) w0 w) (t' : Turn (fun q => v.ownBlock = some q) w w') : Turn (fun _ => False) w0 w' :=
  t.trans t' (fun i hi hv => by have := (h.lt i hv).1; omega)
theorem nums6_ok {a : Int} {x : El} (ha : 0 ≤ a ∧ a < x.id) (hx : Fine x) (hk : 0 ≤ x.kind ∧ x.kind ≤ 255) (i : Nat) (hi : i < 6) : 0 ≤ (nums6 a x).getD i 0 ∧ (nums6 a x).getD i 0 ≤ 1048576 := by
  have h1 := hx.id; have h2 := hx.par; have h3 := hx.ord; have h4 := hx.frm; have h5 := hx.to
  rcases (by omega : i = 0 ∨ i = 1 ∨ i = 2 ∨ i = 3 ∨ i = 4 ∨ i = 5) with rfl | rfl | rfl | rfl | rfl | rfl
  · show 0 ≤ x.id - a ∧ x.id - a ≤ 1048576; omega
  · show 0 ≤ x.kind ∧ x.kind ≤ 1048576; omega
  · show 0 ≤ x.par ∧ x.par ≤ 1048576; omega
  · show 0 ≤ x.ord ∧ x.ord ≤ 1048576; omega
  · show 0 ≤ x.frm ∧ x.frm ≤ 1048576; omega
  · show 0 ≤ x.to ∧ x.to ≤ 1048576; omega
theorem texts4_ok {x : El} (hx : Fine x) (i : Nat) (hi : i < 4) : ((texts4 x).getD i e0).size ≤ 12 := by
  have h1 := hx.name; have h2 := hx.ev; have h3 := hx.gd; have h4 := hx.ac
  rcases (by omega : i = 0 ∨ i = 1 ∨ i = 2 ∨ i = 3) with rfl | rfl | rfl | rfl
  · exact h1
  · exact h2
  · exact h3
  · exact h4

set_option maxHeartbeats 8000000 in
theorem rbytes_any (w : World) (v : Value) (l : List El) (hv : RowV w v l) (hr : rightE l = true) (hkd : ∀ x ∈ l, 0 ≤ x.kind ∧ x.kind ≤ 255) : Calls Try.prog 33 #[v] w (NewBytes w (bytesE l)) := by
  obtain ⟨hlen, hris, hfin⟩ := right_iff.1 hr
  obtain ⟨la, lc, rfl⟩ := hv.form
  obtain ⟨n, hn⟩ : ∃ n, l.length = n := ⟨_, rfl⟩
  rw [hn] at hv hlen
  simp only [hn]
  have HV := Lib.hid hv
  have HN := Lib.hid hn
  have HRIS := Lib.hid hris
  have HFIN := Lib.hid hfin
  have HKD := Lib.hid hkd
  clear hv hn hris hfin hkd hr
  go_enter Try.func33, Try.ntmps33
  go_wp2_with (with_reducible (show wpList _ _ _ (Oper.mk (some 12) _ _ _ _ _ :: _) _ _); refine still ?_)
  refine list_exec rfl _ _ (exec_mark _ _ (.tmp 11) rfl w rfl) ?_
  have hms := mark_src w
  have tm : Turn (fun _ => False) w (w.alloc (.cells #[.int .u8 67, .int .u8 49] 5 (2, 3))) := (Turn.refl _ w).alloc _
  obtain ⟨wm, hwm⟩ : ∃ wm, w.alloc (.cells #[.int .u8 67, .int .u8 49] 5 (2, 3)) = wm := ⟨_, rfl⟩
  rw [hwm] at hms tm
  rw [hwm]
  obtain ⟨G0, hG0⟩ : ∃ G0, w.heap.size = G0 := ⟨_, rfl⟩
  rw [hG0] at hms
  rw [hG0]
  have HMS := Lib.hid hms
  have HTM := Lib.hid tm
  have HGL := Lib.hid (show G0 < wm.heap.size from by rw [← hwm, ← hG0]; simp)
  clear hms tm hwm hG0
  go_wp2_with fail
  refine (ref_num_at (n : Int) n rfl wm (by omega)).mono ?_
  rintro r w2 ⟨vn, rfl, hon, t2⟩
  have hsrc : Src w2 (.slice (some ⟨G0, 0, none⟩) 2 2) [67, 49] := HMS.out.turn t2 (fun _ _ => id)
  obtain ⟨va, wa, hra, hoa, ta⟩ := app_mark w2 w.heap.size _ vn (numB n) hsrc ⟨_, rfl⟩ (.inl (Reads.of_owns hon)) (numB_pos n) (by have := HTM.out.size; have := t2.size; omega) (by have := numB_small9 n (by omega); omega)
  have HRA := Lib.hid hra
  have HOA := Lib.hid hoa
  have HTA := Lib.hid ((HTM.out.trans t2 (fun _ _ => id)).trans ta (fun _ _ => id))
  clear hra hoa ta t2 hon hsrc
  go_wp2_with (with_reducible (show wpList _ _ _ (Oper.mk (some 16) _ _ _ _ _ :: _) _ _); refine still ?_)
  refine list_exec rfl _ _ (exec_append _ _ (.tmp 12) (.tmp 15) 49 rfl _ _ _ _ _ rfl rfl HRA.out) ?_
  go_wp2_with fail
  go_loopw [3, 4, 5] (fun pv av iv wr => ∃ k : Nat, k ≤ n ∧ iv = .int .i64 (k : Int) ∧ av = .int .i64 (lastI 0 (l.take k)) ∧ wr.ownsRow w.heap.size 5 1 pv ([67, 49] ++ numB n ++ elemsB 0 (l.take k)).length (([67, 49] ++ numB n ++ elemsB 0 (l.take k)).map (Value.int .u8)) ∧ Turn (fun _ => False) w wr) (fun _ _ iv _ => n - (intOf iv).toNat)
  case atStart => exact ⟨0, Nat.zero_le _, rfl, rfl, by simpa [elemsB] using HOA.out, HTA.out⟩
  case round =>
    obtain ⟨k, hk, rfl, rfl, ho, htr⟩ := hrel
    obtain ⟨XS, hXS⟩ : ∃ XS, [67, 49] ++ numB n ++ elemsB 0 (l.take k) = XS := ⟨_, rfl⟩
    rw [hXS] at ho
    have HXS := Lib.hid hXS
    have HO := Lib.hid ho
    have HTR := Lib.hid htr
    obtain ⟨pa, pc, hpf⟩ := own_slice ho
    subst hpf
    obtain ⟨a, ha⟩ : ∃ a, lastI 0 (l.take k) = a := ⟨_, rfl⟩
    rw [ha]
    have HA := Lib.hid ha
    have hxl : XS.length ≤ 6100 := by
      have h1 := elemsB_len (l := l.take k) (fun x hx => HFIN.out x (List.mem_of_mem_take hx)) (fun x hx => HKD.out x (List.mem_of_mem_take hx)) 0 (Int.le_refl 0)
      have h2 : (l.take k).length ≤ k := List.length_take_le _ _
      have h3 := numB_small9 n (by omega)
      rw [← hXS]
      simp only [List.length_append, List.length_cons, List.length_nil]
      omega
    have HXL := Lib.hid hxl
    obtain ⟨m0, hm0⟩ : ∃ m0, XS.length = m0 := ⟨_, rfl⟩
    have HM0 := Lib.hid hm0
    rw [hm0]
    clear hxl ho htr hXS ha hm0
    by_cases hlt : k < n
    · obtain ⟨b, o, rfl, hc, hs1⟩ := (HV.out.turn HTR.out (fun _ _ => id)).one HN.out k hlt
      have gi : (0 : Int) ≤ (k : Int) ∧ (k : Int) < (n : Int) := by omega
      have dk : decide ((k : Int) < (n : Int)) = true := decide_eq_true (by omega)
      have hll := last_less HRIS.out HFIN.out (k := k) (by rw [HN.out]; exact hlt)
      obtain ⟨x, hx⟩ : ∃ x, l.getD k el0 = x := ⟨_, rfl⟩
      rw [hx, HA.out] at hll
      rw [hx] at hs1
      have hxm : x ∈ l := hx ▸ getD_mem (by rw [HN.out]; exact hlt)
      have HFX := Lib.hid (HFIN.out x hxm)
      have HKX := Lib.hid (HKD.out x hxm)
      have hkx := HKX.out
      have HLL := Lib.hid hll
      have HSN := Lib.hid (show [67, 49] ++ numB n ++ elemsB 0 (l.take (k + 1)) = XS ++ elemB a x ∧ lastI 0 (l.take (k + 1)) = x.id from by
        rw [take_snoc l k (by rw [HN.out]; exact hlt), hx, elemsB_snoc, lastI_snoc, HA.out, ← List.append_assoc, HXS.out]
        exact ⟨rfl, rfl⟩)
      have HS := Lib.hid hs1
      have hw0 : IntKind.i64.wrap (x.id - a) = x.id - a := by have := HFX.out.id; rw [IntKind.wrap_i64]; omega
      have hw1 : IntKind.i64.wrap x.kind = x.kind := by rw [IntKind.wrap_i64]; omega
      clear hx hs1 hxm hll
      have hbb := box_alloc wr 24 el0.vals
      obtain ⟨E, hE⟩ : ∃ E, wr.heap.size = E := ⟨_, rfl⟩
      obtain ⟨wz, hwz⟩ : ∃ wz, wr.alloc (.cells el0.vals.toArray 24) = wz := ⟨_, rfl⟩
      have hx0 : ∀ ev op, op.op = .alloc 24 → (execOp ev op).run Try.prog wr = .ok (.value (.pointer (some ⟨E, 0, none⟩))) wz := fun ev op ho => by rw [← hwz, ← hE]; exact exec_zero24 ev op ho _
      rw [hwz] at hbb
      have hhh := hbb.heap
      rw [hE] at hhh
      have HX0 := Lib.hid hx0
      have HBB := Lib.hid hbb.turn
      have HHB := Lib.hid hhh
      have HEE := Lib.hid hE
      clear hbb hE hwz hx0 hhh
      go_wp2_with (with_reducible (show wpList _ _ _ (Oper.mk (some 26) (.load 24 (.tmp 25)) _ _ _ _ :: _) _ _); refine still ?_)
      refine wpList_load_mid rfl 24 (.tmp 25) rfl b (o + k * 10) rfl x.vals _ HS.out Try.underlying24 rfl el_info ?_
      go_wp2_with (with_reducible (show wpList _ _ _ (Oper.mk (some 6) (.alloc 24) _ _ _ _ :: _) _ _); refine still ?_)
      refine list_exec rfl _ _ (HX0.out _ _ rfl) ?_
      go_wp2_with (with_reducible (show wpList _ _ _ (Oper.mk none (.store 24 (.tmp 6) (.tmp 26)) _ _ _ _ :: _) _ _); refine still ?_)
      refine list_put wz E 24 el0.vals x.vals HHB.out rfl x.vals_one el_info rfl (.tmp 6) (.tmp 26) rfl rfl rfl (fun wb h2 t2 => ?_)
      have HE := Lib.hid h2
      have Twb := Lib.hid (show Turn (fun _ => False) wr wb from HBB.out.trans t2 (fun q hq e => by have := HEE.out; omega))
      have LE := Lib.hid (show wr.heap.size = E from HEE.out)
      clear h2 t2 HX0 HBB HHB HEE
      obtain ⟨w3, hx3, hb3⟩ := row_n6 wb a x
      have HX3 := Lib.hid hx3
      have HST := Lib.hid (show ByS w w3 _ XS E x wb.heap.size 3 ((nums6 a x).map (Value.int .i64)) from ⟨hb3.turn.owns (Twb.out.owns HO.out (fun _ _ => id)) (fun _ _ => id), (HTR.out.trans Twb.out (fun _ _ => id)).trans hb3.turn (fun _ _ => id), (hb3.turn.block E (Array.getElem?_eq_some_iff.1 HE.out).1 id).trans HE.out, hb3.heap, fun q hq => by
        have h1 := (HO.out.lt q hq).2
        have h2 := LE.out
        have h3 := Twb.out.size
        exact ⟨by omega, by omega⟩⟩)
      obtain ⟨B, hB⟩ : ∃ B, wb.heap.size = B := ⟨_, rfl⟩
      rw [hB] at HX3 HST
      clear hx3 hb3 hB
      obtain ⟨c0, c1, c2, c3, c4, c5, c6, c7, c8, c9⟩ := cellsE (range_of HE.out)
      simp only [Nat.zero_add] at c0 c1 c2 c3 c5 c6
      clear c4 c7 c8 c9
      go_wp2_with (with_reducible (show wpList _ _ _ (Oper.mk (some 42) _ _ _ _ _ :: _) _ _); refine still ?_)
      refine list_exec rfl _ _ (HX3.out _ _ (.tmp 30) (.tmp 33) (.tmp 35) (.tmp 37) (.tmp 39) (.tmp 41) rfl (by first | rfl | (refine congrArg (Value.int _) ?_; go_num)) (by first | rfl | (refine congrArg (Value.int _) ?_; go_num)) rfl rfl rfl rfl) ?_
      clear c0 c1 c2 c3 c5 c6 hw0 hw1
      go_wp2_with fail
      have HLN3 := Lib.hid (show XS.length ≤ 6100 from HXL.out)
      rw [← HM0.out]
      go_loopw [3, 44] (fun pv jv wq => ∃ i : Nat, i ≤ 6 ∧ jv = .int .i64 (i : Int) ∧ ByS w wq pv (XS ++ partN a x i) E x B 3 ((nums6 a x).map (Value.int .i64)) ∧ (XS ++ partN a x i).length ≤ 6100 + 21 * i) (fun _ jv _ => 6 - (intOf jv).toNat)
      case atStart => exact ⟨0, Nat.zero_le _, rfl, by simpa [partN] using HST.out, by have := HLN3.out; simp [partN]; omega⟩
      case round =>
        obtain ⟨i, hi, rfl, hst, hl6⟩ := hrel
        obtain ⟨YS, hYS⟩ : ∃ YS, XS ++ partN a x i = YS := ⟨_, rfl⟩
        rw [hYS] at hst hl6
        have HYS := Lib.hid hYS
        have HST6 := Lib.hid hst
        obtain ⟨qa, qc, hqf⟩ := own_slice hst.own
        subst hqf
        have HL6 := Lib.hid hl6
        obtain ⟨m1, hm1⟩ : ∃ m1, YS.length = m1 := ⟨_, rfl⟩
        have HM1 := Lib.hid hm1
        rw [hm1]
        clear hl6 hYS hm1
        by_cases h6 : i < 6
        · have cc := hst.row i _ (nums6_at a x i h6)
          have HOK := Lib.hid (nums6_ok HLL.out HFX.out HKX.out i h6)
          have HPN := Lib.hid (partN_succ a x i h6)
          obtain ⟨N, hN⟩ : ∃ N, (nums6 a x).getD i 0 = N := ⟨_, rfl⟩
          rw [hN] at cc
          have HOK := Lib.hid (hN ▸ HOK.out)
          have HNN := Lib.hid hN
          have gk : (0 : Int) ≤ (i : Int) ∧ (i : Int) < 6 := by omega
          have dk6 : decide ((i : Int) < 6) = true := decide_eq_true (by omega)
          clear hst hN
          go_wp2_with fail
          refine (ref_num_at N N.toNat (by have := HOK.out; omega) _ (by have := HOK.out; omega)).mono ?_
          rintro r w4 ⟨vn, rfl, hon, t4⟩
          have hys : (numB N.toNat).length ≤ 21 := by have := numB_small9 N.toNat (by have := HOK.out; omega); omega
          obtain ⟨va, wa, hra, hsa⟩ := (HST6.out.turn t4).app (.inl (Reads.of_owns hon)) (by have := HL6.out; omega)
          rw [HM1.out] at hra
          have HRA := Lib.hid hra
          have HSA := Lib.hid hsa
          have HLA := Lib.hid (show (YS ++ numB N.toNat).length ≤ 6100 + 21 * (i + 1) from by have := HL6.out; simp only [List.length_append]; omega)
          clear hra hsa t4 hon hys
          go_wp2_with (with_reducible (show wpList _ _ _ (Oper.mk (some 51) _ _ _ _ _ :: _) _ _); refine still ?_)
          refine list_exec rfl _ _ (exec_append _ _ (.tmp 48) (.tmp 50) 49 rfl _ _ _ _ _ rfl rfl HRA.out) ?_
          clear cc
          go_wp2_with fail
          go_roundw
          case rel => exact ⟨i + 1, by omega, by go_num, by rw [HPN.out, HNN.out, ← List.append_assoc, HYS.out]; exact HSA.out, by rw [HPN.out, HNN.out, ← List.append_assoc, HYS.out]; exact HLA.out⟩
          case measure => simp [intOf]; omega
        · obtain rfl : i = 6 := by omega
          have dk6 : decide (((6 : Nat) : Int) < 6) = false := by decide
          clear hst
          obtain ⟨c0, c1, c2, c3, c4, c5, c6, c7, c8, c9⟩ := cellsE (range_of HST6.out.he)
          simp only [Nat.zero_add] at c4 c7 c8 c9
          clear c0 c1 c2 c3 c5 c6
          obtain ⟨w5, hx5, hb5⟩ := row_t4 wr x
          have HX5 := Lib.hid hx5
          have HSU := Lib.hid (show ByS w w5 _ YS E x wr.heap.size 9 ((texts4 x).map Value.string) from ⟨hb5.turn.owns HST6.out.own (fun _ _ => id), HST6.out.t.trans hb5.turn (fun _ _ => id), (hb5.turn.block E (Array.getElem?_eq_some_iff.1 HST6.out.he).1 id).trans HST6.out.he, hb5.heap, fun q hq => ⟨(HST6.out.ne q hq).1, by have h1 := (HST6.out.own.lt q hq).2; omega⟩⟩)
          obtain ⟨B2, hB2⟩ : ∃ B2, wr.heap.size = B2 := ⟨_, rfl⟩
          rw [hB2] at HX5 HSU
          clear hx5 hb5 hB2
          go_wp2_with (with_reducible (show wpList _ _ _ (Oper.mk (some 61) _ _ _ _ _ :: _) _ _); refine still ?_)
          refine list_exec rfl _ _ (HX5.out _ _ (.tmp 54) (.tmp 56) (.tmp 58) (.tmp 60) rfl rfl rfl rfl rfl) ?_
          clear c4 c7 c8 c9
          go_wp2_with fail
          obtain ⟨ZS, hZS⟩ : ∃ ZS, ZS = YS := ⟨_, rfl⟩
          have HY1 := Lib.hid (show XS ++ partN a x 6 = ZS from by rw [hZS]; exact HYS.out)
          have HLN9 := Lib.hid (show ZS.length ≤ 6300 from by rw [hZS]; have := HL6.out; omega)
          rw [← hZS] at HSU
          have HM2 := Lib.hid (show ZS.length = m1 from by rw [hZS]; exact HM1.out)
          rw [← HM2.out]
          clear hZS
          go_loopw [3, 63] (fun pv jv wq => ∃ i : Nat, i ≤ 4 ∧ jv = .int .i64 (i : Int) ∧ ByS w wq pv (ZS ++ partT x i) E x B2 9 ((texts4 x).map Value.string) ∧ (ZS ++ partT x i).length ≤ 6300 + 21 * i) (fun _ jv _ => 4 - (intOf jv).toNat)
          case atStart => exact ⟨0, Nat.zero_le _, rfl, by simpa [partT] using HSU.out, by have := HLN9.out; simp [partT]; omega⟩
          case round =>
            obtain ⟨i, hi, rfl, hst, hl6⟩ := hrel
            obtain ⟨YS, hYS⟩ : ∃ YS, ZS ++ partT x i = YS := ⟨_, rfl⟩
            rw [hYS] at hst hl6
            have HYS := Lib.hid hYS
            have HST6 := Lib.hid hst
            obtain ⟨qa, qc, hqf⟩ := own_slice hst.own
            subst hqf
            have HL6 := Lib.hid hl6
            obtain ⟨m1, hm1⟩ : ∃ m1, YS.length = m1 := ⟨_, rfl⟩
            have HM1 := Lib.hid hm1
            rw [hm1]
            clear hl6 hYS hm1
            by_cases h6 : i < 4
            · have cc := hst.row i _ (texts4_at x i h6)
              have HOK := Lib.hid (texts4_ok HFX.out i h6)
              have HPN := Lib.hid (partT_succ x i h6)
              obtain ⟨N, hN⟩ : ∃ N, (texts4 x).getD i e0 = N := ⟨_, rfl⟩
              rw [hN] at cc
              have HOK := Lib.hid (hN ▸ HOK.out)
              have HNN := Lib.hid hN
              have gk : (0 : Int) ≤ (i : Int) ∧ (i : Int) < 4 := by omega
              have dk6 : decide ((i : Int) < 4) = true := decide_eq_true (by omega)
              clear hst hN
              go_wp2_with fail
              refine (ref_text N _ (by have := HOK.out; omega)).mono ?_
              rintro r w4 ⟨vn, rfl, hon, t4⟩
              have hys : (textB N).length ≤ 21 := by have h1 := HOK.out; have h2 := numB_small9 N.size (by omega); unfold textB; rw [List.length_append, sB_len]; omega
              obtain ⟨va, wa, hra, hsa⟩ := (HST6.out.turn t4).app (.inl (Reads.of_owns hon)) (by have := HL6.out; omega)
              rw [HM1.out] at hra
              have HRA := Lib.hid hra
              have HSA := Lib.hid hsa
              have HLA := Lib.hid (show (YS ++ textB N).length ≤ 6300 + 21 * (i + 1) from by have := HL6.out; simp only [List.length_append]; omega)
              clear hra hsa t4 hon hys
              go_wp2_with (with_reducible (show wpList _ _ _ (Oper.mk (some 70) _ _ _ _ _ :: _) _ _); refine still ?_)
              refine list_exec rfl _ _ (exec_append _ _ (.tmp 67) (.tmp 69) 49 rfl _ _ _ _ _ rfl rfl HRA.out) ?_
              clear cc
              go_wp2_with fail
              go_roundw
              case rel => exact ⟨i + 1, by omega, by go_num, by rw [HPN.out, HNN.out, ← List.append_assoc, HYS.out]; exact HSA.out, by rw [HPN.out, HNN.out, ← List.append_assoc, HYS.out]; exact HLA.out⟩
              case measure => simp [intOf]; omega
            · obtain rfl : i = 4 := by omega
              have dk6 : decide (((4 : Nat) : Int) < 4) = false := by decide
              clear hst
              have c0 := (cellsE (range_of HST6.out.he)).c0
              simp only [Nat.zero_add] at c0
              go_wp2_with fail
              go_roundw
              case rel => exact ⟨k + 1, by omega, by go_num, by rw [HSN.out.2], by rw [HSN.out.1, part_elem, ← List.append_assoc, HY1.out, HYS.out, ← HM1.out]; exact HST6.out.own, HST6.out.t⟩
              case measure => simp [intOf]; omega
    · have hke : k = n := by omega
      have dk : decide ((k : Int) < (n : Int)) = false := decide_eq_false (by omega)
      have HEND := Lib.hid (show bytesE l = XS from by rw [← HXS.out, hke, List.take_of_length_le (by rw [HN.out]; omega), bytesE, HN.out])
      clear hke
      go_wp2_with fail
      go_ret
      exact ⟨_, rfl, by rw [HEND.out, ← HM0.out]; exact HO.out, HTR.out⟩
end Go.Proofs.Ytokjlhpkjebnkaa
