/- Own texts, packed: Q25. -/
import Derived.Test.YtboofamenpcnhaaGreatDoorV16
import Derived.Test.YtboofamenpcnhaaGreatDoorV04
import Derived.Great.BuildSlice
import Derived.Test.YtboofamenpcnhaaGreatDoorV00
namespace Go.Proofs.YtboofamenpcnhaaGreatDoor
set_option maxRecDepth 100000
open Go.RowKit
set_option linter.unusedVariables false
set_option linter.unusedSimpArgs false
theorem range_over {w : World} {B o : Nat} {cs : List Value} (h : w.rangeAt B o cs) (i : Nat) (vs : List Value) (hi : i + vs.length ≤ cs.length) : (w.setCells B (o + i) vs).rangeAt B o (cs.take i ++ vs ++ cs.drop (i + vs.length)) := fun j v hv => by
  have hex : ∀ q, q < vs.length → (w.cell? ⟨B, o + i + q, none⟩).isSome = true := fun q hq => by
    have := h (i + q) _ (List.getElem?_eq_getElem (show i + q < cs.length by omega))
    rw [show o + i + q = o + (i + q) by omega, this]; rfl
  have htl : (cs.take i).length = i := by simp; omega
  by_cases h1 : j < i
  · rw [World.cell?_setCells_out B vs (o + i) w ⟨B, o + j, none⟩ (fun _ _ => Or.inl (by show o + j < o + i; omega))]
    rw [List.append_assoc, List.getElem?_append_left (by omega)] at hv
    rw [List.getElem?_take, if_pos h1] at hv
    exact h j v hv
  · by_cases h2 : j < i + vs.length
    · have hq := World.cell?_setCells_in B vs (o + i) w hex (j - i) (by omega)
      rw [show o + i + (j - i) = o + j by omega] at hq
      rw [List.append_assoc, List.getElem?_append_right (by omega), htl, List.getElem?_append_left (by omega), List.getElem?_eq_getElem (show j - i < vs.length by omega)] at hv
      rw [hq]; exact hv
    · rw [World.cell?_setCells_out B vs (o + i) w ⟨B, o + j, none⟩ (fun _ _ => Or.inr (by show o + i + vs.length ≤ o + j; omega))]
      rw [List.append_assoc, List.getElem?_append_right (by omega), htl, List.getElem?_append_right (by omega), List.getElem?_drop] at hv
      rw [show i + vs.length + (j - i - vs.length) = j by omega] at hv
      exact h j v hv
def pad64 (xs : List Int) : List Int := xs ++ List.replicate (64 - xs.length) 0
theorem pad64_len (xs : List Int) (h : xs.length ≤ 64) : (pad64 xs).length = 64 := by simp [pad64]; omega
theorem pad64_ok (xs : List Int) (hx : BytesOk xs) : BytesOk (pad64 xs) := by
  intro x h
  rcases List.mem_append.1 h with h | h
  · exact hx x h
  · have := List.eq_of_mem_replicate h; omega
def noughts : List Int := List.replicate 64 0
theorem noughts_len : noughts.length = 64 := by simp [noughts]
def zeroW : List Value := .int .i64 0 :: List.replicate 64 (.int .u8 0)
theorem Tryz.info111 : (Tryz.prog.info? 111).map (fun i => (i.zero, i.size, i.bytes)) = some (some (.agg zeroW.toArray), 65, 72) := by kernel_rfl
theorem info5s : (Tryz.prog.info? 5).map (·.size) = some 1 := by kernel_rfl
theorem wrV_len (x : Nat × List Int) (h : x.2.length = 64) : (wrV x).length = 65 := by simp [wrV, secV_len, h]
theorem wrV_one (x : Nat × List Int) : ∀ v ∈ wrV x, v.oneCell' = true := fun v hv => by
  rcases List.mem_cons.1 hv with rfl | hv
  · rfl
  · exact secV_one _ v hv
/-- A new write's block. -/
theorem new65 (w W : World) (cs : Array Value) (h : w.alloc (.cells cs 111) = W) (hcs : cs = zeroW.toArray) : W.there w.heap.size 0 65 ∧ Turn (fun _ => False) w W := by
  subst hcs
  subst h
  refine ⟨fun j hj => ?_, (Turn.refl _ w).alloc _⟩
  have hb := heap_alloc_new w (.cells zeroW.toArray 111)
  rw [Nat.zero_add]
  exact ⟨by rw [cell_of_row _ _ _ _ 111 (0, 0) hb]; simp [zeroW, hj], frozen_of_row _ _ _ _ 111 hb⟩
theorem size_wr {x : Nat × List Int} (h : x.2.length = 64) : (Tryz.prog.info? 111).map (·.size) = some (wrV x).toArray.size := by
  have e : (wrV x).toArray.size = 65 := by simp [wrV_len x h]
  rw [e]; exact size55
theorem size_wr' {x : Nat × List Int} (h : x.2.length = 64) : (Tryz.prog.info? 111).map (·.size) = some (wrV x).length := by rw [wrV_len x h]; exact size55
theorem there_wr {W : World} {B o : Nat} {x : Nat × List Int} (h : W.there B o 65) (hx : x.2.length = 64) : W.there B o (wrV x).toArray.size := by
  have e : (wrV x).toArray.size = 65 := by simp [wrV_len x hx]
  rw [e]; exact h
theorem build55 (k : Nat) (w : World) : (Instr.build 111 #[(0, .int .i64 (k : Int))]).run Tryz.prog w = .ok (.agg (wrV (k, noughts)).toArray) w := by kernel_rfl
theorem zero55 (w : World) : (zeroValue 111).run Tryz.prog w = .ok (.agg zeroW.toArray) w := by kernel_rfl
theorem exec_build55 (ev : Operand → Value) (op : Oper) (x : Operand) (ho : op.op = .build 111 #[(0, x)]) (k : Nat) (hx : ev x = .int .i64 (k : Int)) (w : World) : (execOp ev op).run Tryz.prog w = .ok (.value (.agg (wrV (k, noughts)).toArray)) w := by
  unfold execOp
  simp only [ho, List.map_toArray, List.map_cons, List.map_nil, hx, Sem.run_bind, Sem.run_pure, build55, Result.andThen_ok]
theorem wpList_exec_want {P : Program} {ops : Array Oper} {rest : List Oper} {op : Oper} {a : Act} {w : World} {Q : Exit → Act → World → Prop} (hw : Region.wanted op (yielded ops a.tmps) = true) (v : Value) (w' : World)
    (h : (execOp a.eval op).run P w = .ok (.value v) w') (h2 : wpList P ops Q rest (a.put op.dst v) w') : wpList P ops Q (op :: rest) a w := by
  unfold wpList
  rw [if_pos hw]
  refine .inl ?_
  unfold Oper.wp
  rw [h]
  exact h2
theorem fold_fill : ∀ (l : List Value) (k : Nat) (a : Array Value), k + l.length ≤ a.size → (l.zipIdx k).foldl (fun cs (x : Value × Nat) => cs.setIfInBounds (0 + x.2) x.1) a = (a.toList.take k ++ l ++ a.toList.drop (k + l.length)).toArray
  | [], k, a, h => by simp
  | c :: l, k, a, h => by
    simp only [List.length_cons] at h
    rw [List.zipIdx_cons, List.foldl_cons, fold_fill l (k + 1) _ (by simp; omega)]
    congr 1
    simp only [Nat.zero_add, Array.toList_setIfInBounds, List.length_cons]
    rw [List.take_set, List.drop_set_of_lt (by omega)]
    have e1 : (a.toList.take (k + 1)).set k c = a.toList.take k ++ [c] := by
      have hk : k < a.toList.length := by simp; omega
      have hl : (a.toList.take k).length = k := by simp; omega
      rw [List.take_succ_eq_append_getElem hk, List.set_append_right k c (by omega), hl, Nat.sub_self]
      rfl
    rw [e1, show k + 1 + l.length = k + (l.length + 1) by omega]
    simp
theorem fill_one (size : Nat) (a cs : Array Value) (h1 : cs.size = size) (h2 : a.size = size) : Instr.fill (fun i => some (i * size, size)) a [(0, .agg cs)] = some cs := by
  have hc : (Value.agg cs).cells = cs := rfl
  have h0 : ¬ (cs.size ≠ size || decide (0 * size + cs.size > a.size)) = true := by simp [h1, h2]
  simp only [Instr.fill, hc, Nat.zero_mul]
  rw [if_neg (by simpa using h0)]
  congr 1
  have h3 := fold_fill cs.toList 0 a (by simp [h1, h2])
  have h4 : cs.zipIdx.foldl (fun cs (x : Value × Nat) => cs.setIfInBounds (0 + x.2) x.1) a = (cs.toList.zipIdx 0).foldl (fun cs (x : Value × Nat) => cs.setIfInBounds (0 + x.2) x.1) a := by
    rw [← Array.foldl_toList, Array.toList_zipIdx]
  rw [h3] at h4
  refine Eq.trans h4 ?_
  apply Array.ext'
  simp [h1, h2]
theorem build47 (x : Nat × List Int) (hx : x.2.length = 64) (w : World) : (Instr.buildSlice 99 1 #[(0, .agg (wrV x).toArray)]).run Tryz.prog w = .ok (.slice (some ⟨w.heap.size, 0, none⟩) 1 1) (w.alloc (.cells (wrV x).toArray 111)) := by
  obtain ⟨i0, hi, hz0, hz1, hz2⟩ := info_parts Tryz.info111
  refine run_buildSlice (P := Tryz.prog) w 99 111 1 _ _ i0 _ Tryz.underlying99 hi hz0 (by rw [hz1]; decide) (by rw [hz1]; decide) ?_
  rw [hz1]
  exact fill_one 65 _ _ (by simp [wrV_len x hx]) (by simp)
theorem exec_build47 (ev : Operand → Value) (op : Oper) (y : Operand) (ho : op.op = .buildSlice 99 1 #[(0, y)]) (x : Nat × List Int) (hx : x.2.length = 64) (hy : ev y = .agg (wrV x).toArray) (w : World) : (execOp ev op).run Tryz.prog w = .ok (.value (.slice (some ⟨w.heap.size, 0, none⟩) 1 1)) (w.alloc (.cells (wrV x).toArray 111)) := by
  unfold execOp
  simp only [ho, List.map_toArray, List.map_cons, List.map_nil, hy, Sem.run_bind, Sem.run_pure, build47 x hx, Result.andThen_ok]
theorem exec_append {P : Program} (ev : Operand → Value) (op : Oper) (s x : Operand) (t : TypeId) (ho : op.op = .call { callee := .builtin .append, args := #[s, x], argTypes := #[t, t] }) (v v2 v' : Value) (w w' : World) (hs : ev s = v) (hx : ev x = v2)
    (hrun : (Builtin.append_ #[t, t] op.type #[v, v2]).run P w = .ok v' w') : (execOp ev op).run P w = .ok (.value v') w' := by
  unfold execOp
  simp only [ho, resolve, invoke, builtin, Sem.run_bind, Sem.run_pure, Result.andThen_ok, List.map_toArray, List.map_cons, List.map_nil, hs, hx, hrun]
theorem oper_exec {P : Program} {op : Oper} {a : Act} {w : World} {K : Act → World → Prop} {Q : Exit → Act → World → Prop} (v : Value) (w' : World) (h : (execOp a.eval op).run P w = .ok (.value v) w') (hk : K (a.put op.dst v) w') : op.wp P a w K Q := by
  unfold Oper.wp
  rw [h]
  exact hk
theorem flatW_app (l : List (Nat × List Int)) (x : Nat × List Int) : flatW (l ++ [x]) = flatW l ++ wrV x := by simp [flatW]
/-- Bytes over a sector of noughts. -/
theorem run_copy_sector (w : World) (B k : Nat) (v : Value) (xs : List Int) (hr : w.rangeAt B 0 (wrV (k, noughts))) (hth : w.there B 0 65) (hv : Src w v xs) (hx : xs.length ≤ 64) (ty : TypeId) :
    ∃ w', (Builtin.copy_ #[29, 29] ty #[.slice (some ⟨B, 1, none⟩) 64 64, v]).run Tryz.prog w = .ok (.int .i64 (xs.length : Int)) w' ∧ w'.rangeAt B 0 (wrV (k, pad64 xs)) ∧ w'.there B 0 65 ∧ Turn (fun q => q = B) w w' := by
  by_cases h0 : xs.length = 0
  · obtain ⟨a, c, rfl, _⟩ := src_any hv
    have hxs : xs = [] := List.eq_nil_of_length_eq_zero h0
    subst hxs
    refine ⟨w, run_copy_none (P := Tryz.prog) w 29 29 ty 5 _ _ 64 64 0 c Tryz.underlying29 info5s rfl, hr, hth, Turn.refl _ _⟩
  · obtain ⟨a, c, rfl, hc⟩ := src_any hv
    obtain ⟨hcap, g, o, rfl, hcell⟩ := hc (by omega)
    have hlen : (secV xs).length = Nat.min xs.length 64 := by
      rw [secV_len]; show xs.length = min xs.length 64; omega
    have hrun := run_copy_cells (P := Tryz.prog) w 29 29 ty 5 B 1 64 64 ⟨g, o, none⟩ xs.length c (secV xs) Tryz.underlying29 info5s hlen (by
      intro j u hj
      have hjl : j < xs.length := by have := (List.getElem?_eq_some_iff.1 hj).1; rwa [secV_len] at this
      rw [Addr.add_mid, hcell j hjl]
      simp [secV, hjl] at hj; subst hj; simp [List.getD, hjl]) (by
      intro j hj; rw [secV_len] at hj
      have := (hth (1 + j) (by omega)).1
      rwa [Nat.zero_add] at this) (by
      intro j hj; rw [secV_len] at hj
      have := (hth (1 + j) (by omega)).2
      rwa [Nat.zero_add] at this) (secV_one xs)
    refine ⟨_, ?_, ?_, World.there_setCells hth _ _ _, turn_setCells B (secV xs) 1 w⟩
    · rw [hrun, secV_len]; rfl
    · have h1 := range_over hr 1 (secV xs) (by rw [wrV_len _ noughts_len, secV_len]; omega)
      rw [Nat.zero_add] at h1
      have e : (wrV (k, noughts)).take 1 ++ secV xs ++ (wrV (k, noughts)).drop (1 + (secV xs).length) = wrV (k, pad64 xs) := by
        simp only [wrV, List.take_succ_cons, List.take_zero, List.cons_append, List.nil_append, secV_len, pad64, secV, noughts, List.map_append]
        congr 2
        rw [Nat.add_comm 1, List.drop_succ_cons, ← List.map_drop, List.drop_replicate, List.length_map]
      rw [e] at h1; exact h1
section
variable {P : Program} {w w' : World}
theorem wpList_copy_run {ops : Array Oper} {rest : List Oper} {o : Oper} {a : Act} {Q : Exit → Act → World → Prop} (hgd : o.guard = none) (s x : Operand) (t : TypeId)
    (ho : o.op = .call { callee := .builtin .copy, args := #[s, x], argTypes := #[t, t] }) (v v2 v' : Value) (hs : a.eval s = v) (hx : a.eval x = v2)
    (hrun : (Builtin.copy_ #[t, t] o.type #[v, v2]).run P w = .ok v' w') (h : wpList P ops Q rest (a.put o.dst v') w') : wpList P ops Q (o :: rest) a w :=
  wpList_plain hgd fun _ hK => by
    unfold Oper.wp execOp
    simp only [ho, resolve, invoke, builtin, Sem.run_bind, Sem.run_pure, Result.andThen_ok, List.map_toArray, List.map_cons, List.map_nil, hs, hx, hrun]
    exact hK _ _ h
end
def DiskM.act (d : DiskM) : DiskM := if d.armed = false then { d with acts := d.acts + 1 } else if d.left = 0 then { d with acts := d.acts + 1, off := true } else { d with acts := d.acts + 1, left := d.left - 1 }
def DiskM.actE (d : DiskM) : Int := if d.armed = false then 0 else if d.left = 0 then 9 else 0
theorem DiskM.act_head (d : DiskM) (S sc : Nat) (wv : Value) : (d.head S sc wv).act = d.act.head S sc wv ∧ (d.head S sc wv).actE = d.actE := by
  unfold HeadM.act HeadM.actE DiskM.act DiskM.actE DiskM.head
  constructor
  · split
    · rfl
    · split <;> rfl
  · rfl
theorem DiskM.act_same (d : DiskM) : d.act.safe = d.safe ∧ d.act.wet = d.wet ∧ d.act.acts = d.acts + 1 ∧ d.act.armed = d.armed := by
  unfold DiskM.act
  split
  · exact ⟨rfl, rfl, rfl, rfl⟩
  · split <;> exact ⟨rfl, rfl, rfl, rfl⟩
theorem DiskM.Ok.of_same {d d' : DiskM} (h : d.Ok) (h1 : d'.safe = d.safe) (h2 : d'.wet = d.wet) : d'.Ok := ⟨by rw [h1]; exact h.safe, by rw [h1, h2]; exact h.wet⟩
/-- An act of the whole disk. -/
theorem disk_act (w : World) (F : Nat → Prop) (D S sc : Nat) (wv : Value) (d : DiskM) (h : DiskIn w F D S sc wv d) (hb : d.acts < 4611686018427387904) (hl : d.left < 4611686018427387904) :
    Calls Tryz.prog 56 #[.pointer (some ⟨D, 0, none⟩)] w fun e w' => e = .returned (.int .i64 d.actE) ∧ DiskIn w' F D S sc wv d.act ∧ Turn (fun k => k = D) w w' := by
  refine (act_any D _ w h.head hb hl).mono ?_
  rintro e w' ⟨rfl, hH, hT⟩
  obtain ⟨e1, e2⟩ := DiskM.act_head d S sc wv
  obtain ⟨s1, s2, s3, s4⟩ := DiskM.act_same d
  rw [e1] at hH
  refine ⟨by rw [e2], ?_, hT⟩
  exact { head := hH, cap := by rw [s1]; exact h.cap, safe := by rw [s1]; exact h.safe.turn hT (fun e => h.nDS e.symm), slt := Nat.lt_of_lt_of_le h.slt hT.size, wet := by rw [s2]; exact hT.owns h.wet (fun k hk e => h.nDw (by rw [hk, e])), fD := h.fD, fS := h.fS, fw := h.fw, nDS := h.nDS, nDw := h.nDw, nSw := h.nSw, ok := h.ok.of_same s1 s2, few := by rw [s1]; exact h.few }
/-- The footprint may grow by new blocks alone. -/
def Grown (w : World) (F F' : Nat → Prop) : Prop := (∀ k, F k → F' k) ∧ ∀ k, F' k → F k ∨ w.heap.size ≤ k
def WriteGood (w : World) (F : Nat → Prop) (D : Nat) (d' : DiskM) (c : Int) (e : Ending) (w' : World) : Prop :=
  e = .returned (.int .i64 c) ∧ ∃ F' S sc wv, DiskIn w' F' D S sc wv d' ∧ Grown w F F' ∧ Turn F w w'
set_option maxHeartbeats 4000000 in
set_option maxRecDepth 100000 in
theorem write_good (w : World) (F : Nat → Prop) (D S sc : Nat) (wv : Value) (d : DiskM) (k : Nat) (v : Value) (xs : List Int) (h : DiskIn w F D S sc wv d) (hk : k < d.safe.length) (hoff : d.off = false) (hv : Src w v xs) (hx : BytesOk xs) (h64 : xs.length ≤ 64)
    (hwl : d.wet.length ≤ 1000000000000) (hb : d.acts < 4611686018427387904) (hl : d.left < 4611686018427387904) :
    Calls Tryz.prog 23 #[.pointer (some ⟨D, 0, none⟩), .int .i64 (k : Int), v] w (WriteGood w F D ({ d with wet := d.wet ++ [(k, pad64 xs)] } : DiskM).act ({ d with wet := d.wet ++ [(k, pad64 xs)] } : DiskM).actE) := by
  obtain ⟨i0, hi, hz0, hz1, hz2⟩ := info_parts Tryz.info111
  obtain ⟨_, _, _, _, _, c5⟩ := h.head.all
  dsimp only [DiskM.head] at c5
  rw [hoff] at c5
  have HD := Lib.hid h
  have HV := Lib.hid hv
  have HX := Lib.hid hx
  obtain ⟨va, vc, rfl, _⟩ := src_any hv
  have hz55 := zero55
  have hd64 : decide ((64 : Int) < (xs.length : Int)) = false := by simp; omega
  clear h hv hx
  go_enter Tryz.func23, Tryz.ntmps23
  go_wp2_with fail
  refine (has_any D d.safe.length sc _ (k : Int) _ w HD.out.head rfl).mono ?_
  rintro e w1 ⟨rfl, rfl⟩
  rw [decide_eq_true (show (0 : Int) ≤ (k : Int) ∧ (k : Int) < (d.safe.length : Int) by omega)]
  go_wp2_with (first
    | (with_reducible (show wpList _ _ _ (Oper.mk (some 22) (.build 111 #[(0, .tmp 21)]) _ _ _ _ :: _) _ _)
       refine wpList_exec_want (op := ⟨some 22, .build 111 #[(0, .tmp 21)], _, _, _, _⟩) rfl (.agg (wrV (k, noughts)).toArray) _ (exec_build55 _ _ (.tmp 21) rfl k rfl _) ?_)
    | (with_reducible (show wpList _ _ _ (Oper.mk none (.store 111 (.tmp 7) (.tmp 22)) _ _ _ _ :: _) _ _)
       generalize hW : World.alloc w1 _ = W
       obtain ⟨hth, T1⟩ := new65 w1 W _ hW rfl
       clear hW
       refine wpList_store_mid (op := ⟨none, .store 111 (.tmp 7) (.tmp 22), _, _, _, _⟩) rfl 111 (.tmp 7) (.tmp 22) rfl w1.heap.size 0 (wrV (k, noughts)).toArray rfl rfl (there_wr hth noughts_len) (size_wr noughts_len) (all_oneCell_toArray (wrV_one _)) ?_
       have hr2 := World.rangeAt_setCells_same W w1.heap.size 0 (wrV (k, noughts)) (by rw [wrV_len _ noughts_len]; exact hth)
       have hth2 := World.there_setCells hth w1.heap.size 0 (wrV (k, noughts))
       have T2 := T1.trans (turn_setCells w1.heap.size (wrV (k, noughts)) 0 W) (fun q hq h => by omega)
       change wpList _ _ _ _ _ (W.setCells w1.heap.size 0 (wrV (k, noughts)))
       generalize W.setCells w1.heap.size 0 (wrV (k, noughts)) = w2 at hr2 hth2 T2 ⊢
       clear hth T1
       have HSZ := Lib.hid (Nat.le_refl w1.heap.size)
       generalize hB : w1.heap.size = B at hr2 hth2 HSZ ⊢)
    | (with_reducible (show wpList _ _ _ (Oper.mk (some 26) (.call ⟨.builtin .copy, #[.tmp 24, .tmp 25], #[29, 29]⟩) _ _ _ _ :: _) _ _)
       obtain ⟨w3, hcp, hr3, hth3, t3⟩ := run_copy_sector w2 B k _ xs hr2 hth2 (HV.out.turn T2 (fun _ _ => id)) h64 3
       refine wpList_copy_run rfl (.tmp 24) (.tmp 25) 29 rfl _ _ _ rfl rfl hcp ?_))
  try simp only [Act.put, zq4, zq5, zq6, zq1, zq2, zq3]
  have T3 := T2.trans t3 (fun q hq h => by omega)
  have HD3 := Lib.hid (HD.out.turn T3 (fun _ _ => id))
  have hx64 := pad64_len xs h64
  obtain ⟨wa, wc, rfl⟩ := wet_form HD.out.wet
  obtain ⟨_, c1, _⟩ := HD3.out.head.all
  dsimp only [DiskM.head] at c1
  have hlt : w1.heap.size ≤ B := by omega
  have hDB : D < B := by have := HD.out.head.lt; omega
  have hDB2 : D < w3.heap.size := HD3.out.head.lt
  have hBlt : B < w3.heap.size := by
    obtain ⟨u, hu⟩ := Option.isSome_iff_exists.1 (hth3 0 (by omega)).1
    exact World.block_lt_of_cell? w3 _ hu
  clear T2 t3 hr2 hth2 hcp hth3 c5 hz55
  generalize hpx : pad64 xs = ys at hr3 hx64
  refine wp_region_held_drew (S := fun w' => w'.rangeAt B 0 (wrV (k, ys))) (by kernel_rfl) hr3 (fun hHeld => ?_)
  refine wpAnyH_take (i := 0) (v := .pointer (some ⟨D, 0, none⟩)) rfl (by kernel_rfl) (by kernel_rfl) (by kernel_rfl) (fun _ _ _ h => h) (Or.inl ⟨by rfl, ?y0⟩) (by assumption) ?r0
  case y0 => (intro w hSw; (try dsimp only at hSw); (try simp only [zq1, zq2, zq3]); go_simp; try with_reducible rfl)
  case r0 =>
  try simp only [Act.put, zq4, zq5, zq6, zq1, zq2, zq3]
  refine wpAnyH_take (i := 1) (v := .pointer (some ⟨D, 0, none⟩)) rfl (by kernel_rfl) (by kernel_rfl) (by kernel_rfl) (fun _ _ _ h => h) (Or.inl ⟨by rfl, ?y1⟩) (by assumption) ?r1
  case y1 => (intro w hSw; (try dsimp only at hSw); (try simp only [zq1, zq2, zq3]); go_simp; try with_reducible rfl)
  case r1 =>
  try simp only [Act.put, zq4, zq5, zq6, zq1, zq2, zq3]
  refine wpAnyH_take (i := 2) (v := .pointer (some ⟨D, 0, none⟩)) rfl (by kernel_rfl) (by kernel_rfl) (by kernel_rfl) (fun _ _ _ h => h) (Or.inl ⟨by rfl, ?y2⟩) (by assumption) ?r2
  case y2 => (intro w hSw; (try dsimp only at hSw); (try simp only [zq1, zq2, zq3]); go_simp; try with_reducible rfl)
  case r2 =>
  try simp only [Act.put, zq4, zq5, zq6, zq1, zq2, zq3]
  refine wpAnyH_take (i := 3) (v := .pointer (some ⟨D, 1, none⟩)) rfl (by kernel_rfl) (by kernel_rfl) (by kernel_rfl) (fun _ _ _ h => h) (Or.inl ⟨by rfl, ?y3⟩) (by assumption) ?r3
  case y3 => (intro w hSw; (try dsimp only at hSw); (try simp only [zq1, zq2, zq3]); go_simp; try with_reducible rfl)
  case r3 =>
  try simp only [Act.put, zq4, zq5, zq6, zq1, zq2, zq3]
  refine wpAnyH_take (i := 5) (v := .agg (wrV (k, ys)).toArray) rfl (by kernel_rfl) (by kernel_rfl) (by kernel_rfl) (fun _ _ _ h => h) (yieldsIf_load_mid (by rfl) 111 (.tmp 7) rfl B 0 rfl (wrV (k, ys)) _ (fun w hw => hw) Tryz.underlying111 rfl (size_wr' hx64)) (by assumption) ?r5
  case r5 =>
  try simp only [Act.put, zq4, zq5, zq6, zq1, zq2, zq3]
  have T4 : Turn (fun _ => False) w3 (w3.drew.alloc (.cells (wrV (k, ys)).toArray 111)) := ((Turn.refl _ w3).drew).alloc _
  have hb4 : (w3.drew.alloc (.cells (wrV (k, ys)).toArray 111)).heap[w3.heap.size]? = some (.cells (wrV (k, ys)).toArray 111) := heap_alloc_new w3.drew _
  obtain ⟨w4, hw4⟩ : ∃ w4, w3.drew.alloc (.cells (wrV (k, ys)).toArray 111) = w4 := ⟨_, rfl⟩
  rw [hw4] at T4 hb4
  have HD4 := Lib.hid (HD3.out.turn T4 (fun _ _ => id))
  have c14 : w4.cell? ⟨D, 1, none⟩ = some (.slice wa d.wet.length wc) := (T4.cell (p := ⟨D, 1, none⟩) hDB2 id).trans c1
  have hr4 : w4.rangeAt B 0 (wrV (k, ys)) := rangeAt_turn hr3 T4 id
  have hnews : ∀ (j : Nat) u, (wrV (k, ys))[j]? = some u → w4.cell? ((⟨w3.heap.size, 0, none⟩ : Addr).add j) = some u := fun j u hj => by
    rw [Addr.add_mid, Nat.zero_add, cell_of_row _ _ _ _ 111 (0, 0) hb4]; simpa using hj
  obtain ⟨v5, w5, hap, ho5, hg5, _⟩ := run_append_own (P := Tryz.prog) w4 0 99 99 111 i0 _ 65 72 Tryz.underlying99 hi hz0 hz1 hz2 (by simp [Value.cells, zeroW]) (by decide) (.slice wa d.wet.length wc) d.wet.length _ HD4.out.wet ⟨w3.heap.size, 0, none⟩ 1 1 (wrV (k, ys)) (by rw [wrV_len _ hx64]) hnews (wrV_one _) (by unfold maxLen; omega) (by omega) (Nat.zero_le _)
  have hf5 := run_append_where (P := Tryz.prog) w4 99 99 111 i0 _ 65 72 Tryz.underlying99 hi hz0 hz1 hz2 (by simp [Value.cells, zeroW]) (by decide) 0 (.slice wa d.wet.length wc) d.wet.length _ HD4.out.wet ⟨w3.heap.size, 0, none⟩ 1 1 (wrV (k, ys)) (by rw [wrV_len _ hx64]) hnews (wrV_one _) (by unfold maxLen; omega) (by omega) v5 w5 hap
  have t5 : Turn (fun q => (Value.slice wa d.wet.length wc).ownBlock = some q) w4 w5 := (Turn.refl _ w4).grown hg5 (fun q hq _ => hq)
  have hnD : ¬ (Value.slice wa d.wet.length wc).ownBlock = some D := HD.out.nDw
  have hnB : ¬ (Value.slice wa d.wet.length wc).ownBlock = some B := fun h => by
    have := (HD.out.wet.lt B h).2; omega
  have hs4 := T4.size
  have hr5 : w5.rangeAt B 0 (wrV (k, ys)) := rangeAt_turn hr4 t5 hnB
  have c15 : w5.cell? ⟨D, 1, none⟩ = some (.slice wa d.wet.length wc) := (t5.cell (p := ⟨D, 1, none⟩) (by show D < _; omega) hnD).trans c14
  have hH5 := HD4.out.head.turn t5 hnD
  have f1 := hH5.free 1
  have HH5 := Lib.hid hH5
  obtain ⟨a5, c5, rfl⟩ := wet_form ho5
  have hH6 : Head (w5.setCell ⟨D, 1, none⟩ (.slice a5 (d.wet.length + 1) c5)) D (({ d with wet := d.wet ++ [(k, ys)] } : DiskM).head S sc (.slice a5 (d.wet.length + 1) c5)) := hH5.set 1 _ rfl
  have t6 := turn_cell w5 D 1 (.slice a5 (d.wet.length + 1) c5)
  have hr6 : (w5.setCell ⟨D, 1, none⟩ (.slice a5 (d.wet.length + 1) c5)).rangeAt B 0 (wrV (k, ys)) := rangeAt_turn hr5 t6 (by omega)
  -- the new disk
  have hdisk : ∃ F', DiskIn (w5.setCell ⟨D, 1, none⟩ (.slice a5 (d.wet.length + 1) c5)) F' D S sc (.slice a5 (d.wet.length + 1) c5) ({ d with wet := d.wet ++ [(k, ys)] } : DiskM) ∧ Grown w1 F F' := by
    have hs1 := T3.size
    have hfresh : ∀ q, (Value.slice a5 (d.wet.length + 1) c5).ownBlock = some q → (Value.slice wa d.wet.length wc).ownBlock = some q ∨ w4.heap.size ≤ q := fun q hq => by
      rcases hf5 with h | ⟨g, h, hg⟩
      · exact .inl (h.symm.trans hq)
      · rw [hq] at h; cases h; exact .inr hg
    have hSlt : S < w4.heap.size := HD4.out.slt
    have hDlt : D < w4.heap.size := HD4.out.head.lt
    refine ⟨fun q => F q ∨ (Value.slice a5 (d.wet.length + 1) c5).ownBlock = some q, ?_, fun q hq => .inl hq, fun q hq => ?_⟩
    · have hnew1 : (Value.slice a5 (d.wet.length + 1) c5).ownBlock ≠ some D := fun h => by
        rcases hfresh D h with h | h
        · exact hnD h
        · omega
      have hnew2 : (Value.slice a5 (d.wet.length + 1) c5).ownBlock ≠ some S := fun h => by
        rcases hfresh S h with h | h
        · exact HD.out.nSw h
        · omega
      have hwt : flatW (d.wet ++ [(k, ys)]) = flatW d.wet ++ wrV (k, ys) := flatW_app _ _
      exact { head := hH6, cap := HD.out.cap, safe := (HD4.out.safe.turn t5 (fun h => HD.out.nSw h)).turn t6 (fun h => HD.out.nDS h.symm), slt := by have := t5.size; have := t6.size; show S < _; omega,
               wet := by
                 have h7 := t6.owns ho5 (fun q hq e => hnew1 (by rw [hq, e]))
                 show World.ownsRow _ 0 111 65 _ (d.wet ++ [(k, ys)]).length (flatW (d.wet ++ [(k, ys)]))
                 rw [hwt, List.length_append]; exact h7,
               fD := .inl HD.out.fD, fS := .inl HD.out.fS, fw := fun q hq => .inr hq, nDS := HD.out.nDS, nDw := hnew1, nSw := hnew2,
               ok := ⟨HD.out.ok.safe, fun x hx => by
                 rcases List.mem_append.1 hx with hx | hx
                 · exact HD.out.ok.wet x hx
                 · obtain rfl : x = (k, ys) := by simpa using hx
                   exact ⟨hk, hx64, by rw [← hpx]; exact pad64_ok xs HX.out⟩⟩, few := HD.out.few }
    · rcases hq with hq | hq
      · exact .inl hq
      · rcases hfresh q hq with h | h
        · exact .inl (HD.out.fw q h)
        · exact .inr (by omega)
  have hturn : Turn F w1 (w5.setCell ⟨D, 1, none⟩ (.slice a5 (d.wet.length + 1) c5)) :=
    (((T3.mono (T := F) (fun _ _ h => h.elim)).trans T4 (fun _ _ h => h.elim)).trans t5 (fun q hq h => HD.out.fw q h)).trans t6 (fun q hq h => h ▸ HD.out.fD)
  have HDISK := Lib.hid hdisk
  have HTURN := Lib.hid hturn
  clear hdisk hturn hf5 hg5 ho5 hnews T4 hb4 hH5 hH6 t5
  refine wpAnyH_ready (rs := [4, 6]) (by kernel_rfl) (by simp) ?_
  refine AllReadyH.cons rfl (fun K hK => ?_) (AllReadyH.cons rfl (fun K hK => ?_) AllReadyH.nil)
  · go_simp
    refine hK.out _ _ hHeld (fun _ => ?_)
    clear hK K
    try simp only [Act.put, zq4, zq5, zq6, zq1, zq2, zq3]
    refine wpAnyH_ready (rs := [6]) (by kernel_rfl) (by simp) ?_
    refine AllReadyH.cons rfl (fun K hK => ?_) AllReadyH.nil
    rw [if_pos (by rfl)]
    refine oper_exec _ _ (exec_build47 _ _ (.tmp 32) rfl (k, ys) hx64 rfl _) ?_
    change K _ (w3.drew.alloc (.cells (wrV (k, ys)).toArray 111))
    rw [hw4]
    refine hK.out _ _ hr4 (fun _ => ?_)
    clear hK K
    try simp only [Act.put, zq4, zq5, zq6, zq1, zq2, zq3]
    refine wpAnyH_ready (rs := [7]) (by kernel_rfl) (by simp) ?_
    refine AllReadyH.cons rfl (fun K hK => ?_) AllReadyH.nil
    rw [if_pos (by rfl)]
    refine oper_exec _ _ (exec_append _ _ (.tmp 31) (.tmp 33) 99 rfl _ _ _ _ _ rfl rfl hap) ?_
    refine hK.out _ _ hr5 (fun _ => ?_)
    clear hK K
    try simp only [Act.put, zq4, zq5, zq6, zq1, zq2, zq3]
    refine wpAnyH_take (i := 8) (v := .pointer (some ⟨D, 0, none⟩)) rfl (by kernel_rfl) (by kernel_rfl) (by kernel_rfl) (fun _ _ _ h => h) (Or.inl ⟨by rfl, ?yq8⟩) (by assumption) ?rq8
    case yq8 => (intro w hSw; (try dsimp only at hSw); (try simp only [zq1, zq2, zq3]); go_simp; try with_reducible rfl)
    case rq8 =>
    try simp only [Act.put, zq4, zq5, zq6, zq1, zq2, zq3]
    refine wpAnyH_take (i := 9) (v := .pointer (some ⟨D, 1, none⟩)) rfl (by kernel_rfl) (by kernel_rfl) (by kernel_rfl) (fun _ _ _ h => h) (Or.inl ⟨by rfl, ?yq9⟩) (by assumption) ?rq9
    case yq9 => (intro w hSw; (try dsimp only at hSw); (try simp only [zq1, zq2, zq3]); go_simp; try with_reducible rfl)
    case rq9 =>
    try simp only [Act.put, zq4, zq5, zq6, zq1, zq2, zq3]
    refine wpAnyH_ready (rs := [10]) (by kernel_rfl) (by simp) ?_
    refine AllReadyH.cons rfl (fun K hK => ?_) AllReadyH.nil
    go_simp
    refine hK.out _ _ hr6 (fun _ => ?_)
    clear hK K
    try simp only [Act.put, zq4, zq5, zq6, zq1, zq2, zq3]
    refine wpAnyH_done (by kernel_rfl) ?_ _
    obtain ⟨F', hd6, hgr⟩ := HDISK.out
    have HD6 := Lib.hid hd6
    have HGR := Lib.hid hgr
    clear hd6 hgr
    generalize w5.setCell ⟨D, 1, none⟩ (.slice a5 (d.wet.length + 1) c5) = w6 at HD6 HTURN ⊢
    clear hr6 t6
    go_wp2_with fail
    refine (disk_act w6 F' D S sc _ _ HD6.out hb hl).mono ?_
    rintro e w7 ⟨rfl, hd7, t7⟩
    go_wp2_with fail
    go_ret
    subst hpx
    exact ⟨rfl, F', S, sc, _, hd7, HGR.out, HTURN.out.trans t7 (fun q hq h => h ▸ HD.out.fD)⟩
  · rw [if_pos (by rfl)]
    refine oper_exec _ _ (exec_build47 _ _ (.tmp 32) rfl (k, ys) hx64 rfl _) ?_
    change K _ (w3.drew.alloc (.cells (wrV (k, ys)).toArray 111))
    rw [hw4]
    refine hK.out _ _ hr4 (fun _ => ?_)
    clear hK K
    try simp only [Act.put, zq4, zq5, zq6, zq1, zq2, zq3]
    refine wpAnyH_ready (rs := [4]) (by kernel_rfl) (by simp) ?_
    refine AllReadyH.cons rfl (fun K hK => ?_) AllReadyH.nil
    go_simp
    refine hK.out _ _ hr4 (fun _ => ?_)
    clear hK K
    try simp only [Act.put, zq4, zq5, zq6, zq1, zq2, zq3]
    refine wpAnyH_ready (rs := [7]) (by kernel_rfl) (by simp) ?_
    refine AllReadyH.cons rfl (fun K hK => ?_) AllReadyH.nil
    rw [if_pos (by rfl)]
    refine oper_exec _ _ (exec_append _ _ (.tmp 31) (.tmp 33) 99 rfl _ _ _ _ _ rfl rfl hap) ?_
    refine hK.out _ _ hr5 (fun _ => ?_)
    clear hK K
    try simp only [Act.put, zq4, zq5, zq6, zq1, zq2, zq3]
    refine wpAnyH_take (i := 8) (v := .pointer (some ⟨D, 0, none⟩)) rfl (by kernel_rfl) (by kernel_rfl) (by kernel_rfl) (fun _ _ _ h => h) (Or.inl ⟨by rfl, ?yq8⟩) (by assumption) ?rq8
    case yq8 => (intro w hSw; (try dsimp only at hSw); (try simp only [zq1, zq2, zq3]); go_simp; try with_reducible rfl)
    case rq8 =>
    try simp only [Act.put, zq4, zq5, zq6, zq1, zq2, zq3]
    refine wpAnyH_take (i := 9) (v := .pointer (some ⟨D, 1, none⟩)) rfl (by kernel_rfl) (by kernel_rfl) (by kernel_rfl) (fun _ _ _ h => h) (Or.inl ⟨by rfl, ?yq9⟩) (by assumption) ?rq9
    case yq9 => (intro w hSw; (try dsimp only at hSw); (try simp only [zq1, zq2, zq3]); go_simp; try with_reducible rfl)
    case rq9 =>
    try simp only [Act.put, zq4, zq5, zq6, zq1, zq2, zq3]
    refine wpAnyH_ready (rs := [10]) (by kernel_rfl) (by simp) ?_
    refine AllReadyH.cons rfl (fun K hK => ?_) AllReadyH.nil
    go_simp
    refine hK.out _ _ hr6 (fun _ => ?_)
    clear hK K
    try simp only [Act.put, zq4, zq5, zq6, zq1, zq2, zq3]
    refine wpAnyH_done (by kernel_rfl) ?_ _
    obtain ⟨F', hd6, hgr⟩ := HDISK.out
    have HD6 := Lib.hid hd6
    have HGR := Lib.hid hgr
    clear hd6 hgr
    generalize w5.setCell ⟨D, 1, none⟩ (.slice a5 (d.wet.length + 1) c5) = w6 at HD6 HTURN ⊢
    clear hr6 t6
    go_wp2_with fail
    refine (disk_act w6 F' D S sc _ _ HD6.out hb hl).mono ?_
    rintro e w7 ⟨rfl, hd7, t7⟩
    go_wp2_with fail
    go_ret
    subst hpx
    exact ⟨rfl, F', S, sc, _, hd7, HGR.out, HTURN.out.trans t7 (fun q hq h => h ▸ HD.out.fD)⟩
set_option maxHeartbeats 800000 in
theorem write_bad (w : World) (F : Nat → Prop) (D S sc : Nat) (wv : Value) (d : DiskM) (i : Int) (a : Option Addr) (n c : Nat) (h : DiskIn w F D S sc wv d) (hbad : ¬ (0 ≤ i ∧ i < (d.safe.length : Int)) ∨ 64 < n) :
    Calls Tryz.prog 23 #[.pointer (some ⟨D, 0, none⟩), .int .i64 i, .slice a n c] w fun e w' => e = .returned (.int .i64 1) ∧ w' = w := by
  have HD := Lib.hid h
  clear h
  by_cases hin : 0 ≤ i ∧ i < (d.safe.length : Int)
  · have h64 : decide ((64 : Int) < (n : Int)) = true := by
      rcases hbad with h | h
      · exact absurd hin h
      · simp; omega
    go_enter Tryz.func23, Tryz.ntmps23
    go_wp2_with fail
    refine (has_any D d.safe.length sc _ i _ w HD.out.head rfl).mono ?_
    rintro e w1 ⟨rfl, rfl⟩
    rw [decide_eq_true hin]
    go_wp2_with fail
    go_ret
    exact ⟨rfl, rfl⟩
  · go_enter Tryz.func23, Tryz.ntmps23
    go_wp2_with fail
    refine (has_any D d.safe.length sc _ i _ w HD.out.head rfl).mono ?_
    rintro e w1 ⟨rfl, rfl⟩
    rw [decide_eq_false hin]
    go_wp2_with fail
    go_ret
    exact ⟨rfl, rfl⟩
set_option maxHeartbeats 800000 in
theorem write_off (w : World) (F : Nat → Prop) (D S sc : Nat) (wv : Value) (d : DiskM) (k : Nat) (a : Option Addr) (n c : Nat) (h : DiskIn w F D S sc wv d) (hk : k < d.safe.length) (hn : n ≤ 64) (hoff : d.off = true) :
    Calls Tryz.prog 23 #[.pointer (some ⟨D, 0, none⟩), .int .i64 (k : Int), .slice a n c] w fun e w' => e = .returned (.int .i64 9) ∧ w' = w := by
  obtain ⟨_, _, _, _, _, c5⟩ := h.head.all
  dsimp only [DiskM.head] at c5
  rw [hoff] at c5
  have HD := Lib.hid h
  clear h
  have h64 : decide ((64 : Int) < (n : Int)) = false := by simp; omega
  go_enter Tryz.func23, Tryz.ntmps23
  go_wp2_with fail
  refine (has_any D d.safe.length sc _ (k : Int) _ w HD.out.head rfl).mono ?_
  rintro e w1 ⟨rfl, rfl⟩
  rw [decide_eq_true (show (0 : Int) ≤ (k : Int) ∧ (k : Int) < (d.safe.length : Int) by omega)]
  go_wp2_with fail
  go_ret
  exact ⟨rfl, rfl⟩
end Go.Proofs.YtboofamenpcnhaaGreatDoor
namespace Go.Proofs.YtboofamenpcnhaaGreatDoor
set_option maxRecDepth 100000
open Go.RowKit
set_option linter.unusedVariables false
set_option linter.unusedSimpArgs false
/-- The safe sectors behind the first j writes. -/
def keepK (safe : List (List Int)) (wet : List (Nat × List Int)) (f : Nat → Bool) : Nat → List (List Int)
  | 0 => safe
  | j + 1 => if f j then (keepK safe wet f j).set (wet.getD j (0, [])).1 (wet.getD j (0, [])).2 else keepK safe wet f j
theorem keepK_len (safe : List (List Int)) (wet : List (Nat × List Int)) (f : Nat → Bool) (j : Nat) : (keepK safe wet f j).length = safe.length := by
  induction j with
  | zero => rfl
  | succ j ih => rw [keepK]; split <;> simp [ih]
/-- A sector that is made safe. -/
theorem SafeAt.set {w : World} {S : Nat} {l : List (List Int)} (h : SafeAt w S l) (k : Nat) (hk : k < l.length) (s : List Int) (hs : s.length = 64) (hl : ∀ x ∈ l, x.length = 64) : SafeAt (w.setCells S (k * 64) (secV s)) S (l.set k s) := fun i t hi => by
  have hth : ∀ i t, l[i]? = some t → w.there S (i * 64) 64 := fun i t h' => (h i t h').2
  rw [List.getElem?_set] at hi
  by_cases e : k = i
  · subst e
    rw [if_pos rfl, if_pos hk] at hi
    obtain rfl : s = t := by simpa using hi
    have h1 := hth k _ (List.getElem?_eq_getElem hk)
    exact ⟨World.rangeAt_setCells_same w S (k * 64) (secV s) (by rw [secV_len, hs]; exact h1), World.there_setCells h1 _ _ _⟩
  · rw [if_neg e] at hi
    have ht := hl t (List.mem_of_getElem? hi)
    refine ⟨World.rangeAt_setCells_apart (h i t hi).1 S (k * 64) (secV s) ?_, World.there_setCells (h i t hi).2 _ _ _⟩
    rw [secV_len, secV_len, hs, ht]
    omega
theorem DiskIn.setSafe {w : World} {F : Nat → Prop} {D S sc : Nat} {wv : Value} {d : DiskM} (h : DiskIn w F D S sc wv d) (k : Nat) (hk : k < d.safe.length) (s : List Int) (hs : s.length = 64) (hb : BytesOk s) :
    DiskIn (w.setCells S (k * 64) (secV s)) F D S sc wv { d with safe := d.safe.set k s } := by
  have ht := turn_setCells S (secV s) (k * 64) w
  refine { head := ?_, cap := by simpa using h.cap, safe := h.safe.set k hk s hs (fun x hx => (h.ok.safe x hx).1), slt := Nat.lt_of_lt_of_le h.slt ht.size, wet := ht.owns h.wet (fun q hq e => h.nSw (by rw [hq, e])), fD := h.fD, fS := h.fS, fw := h.fw, nDS := h.nDS, nDw := h.nDw, nSw := h.nSw, ok := ⟨fun x hx => ?_, fun x hx => by simpa using h.ok.wet x hx⟩, few := by simpa using h.few }
  · have h1 := h.head.turn ht h.nDS
    simpa [DiskM.head] using h1
  · rcases List.mem_or_eq_of_mem_set hx with hx | rfl
    · exact h.ok.safe x hx
    · exact ⟨hs, hb⟩
theorem DiskIn.clear {w : World} {F : Nat → Prop} {D S sc : Nat} {wv : Value} {d : DiskM} (h : DiskIn w F D S sc wv d) :
    DiskIn (w.setCell ⟨D, 1, none⟩ (.slice none 0 0)) F D S sc (.slice none 0 0) { d with wet := [] } := by
  have ht := turn_cell w D 1 (.slice none 0 0)
  exact { head := h.head.set 1 _ rfl, cap := h.cap, safe := h.safe.turn ht (fun e => h.nDS e.symm), slt := Nat.lt_of_lt_of_le h.slt ht.size, wet := World.ownsRow_nil _ _ _ _, fD := h.fD, fS := h.fS, fw := fun q hq => (by cases hq), nDS := h.nDS, nDw := fun e => (by cases e), nSw := fun e => (by cases e), ok := ⟨h.ok.safe, fun x hx => (by cases hx)⟩, few := h.few }
def KeepPost (w : World) (F : Nat → Prop) (D S sc : Nat) (d : DiskM) (f : Nat → Bool) (e : Ending) (w' : World) : Prop :=
  e = .returned (.tuple #[]) ∧ DiskIn w' F D S sc (.slice none 0 0) { d with safe := keepK d.safe d.wet f d.wet.length, wet := [] } ∧ Turn (fun q => q = S ∨ q = D) w w'
set_option maxHeartbeats 800000 in
theorem flush1_any (i : Int) (w : World) : Calls Tryz.prog 58 #[.int .i64 i] w fun e w' => e = .returned (.bool true) ∧ Turn (fun _ => False) w w' := by
  go_enter Tryz.func58, Tryz.ntmps58
  go_wp2_with fail
  go_ret
  exact ⟨rfl, Turn.refl _ _⟩
set_option maxHeartbeats 4000000 in
set_option maxRecDepth 100000 in
theorem keep_all (w : World) (F : Nat → Prop) (D S sc : Nat) (wv : Value) (d : DiskM) (h : DiskIn w F D S sc wv d) (hwl : d.wet.length ≤ 1000000000000) :
    Calls Tryz.prog 57 #[.pointer (some ⟨D, 0, none⟩), .func (.func 58) #[] #[]] w (KeepPost w F D S sc d (fun _ => true)) := by
  obtain ⟨f, hfall⟩ : ∃ f : Nat → Bool, (fun _ => true) = f := ⟨_, rfl⟩
  rw [hfall]
  have HFA := Lib.hid hfall
  clear hfall
  have hz55 := zero55
  obtain ⟨wa, wc, rfl⟩ := wet_form h.wet
  obtain ⟨_, c1, _⟩ := h.head.all
  dsimp only [DiskM.head] at c1
  have HD := Lib.hid h
  clear h
  obtain ⟨n, hn⟩ : ∃ n, d.wet.length = n := ⟨_, rfl⟩
  rw [hn] at c1 hwl
  have HN := Lib.hid hn
  go_enter Tryz.func57, Tryz.ntmps57
  go_wp2_with fail
  go_loopw [11] (fun iv wr => ∃ j : Nat, j ≤ n ∧ iv = .int .i64 (j : Int) ∧ DiskIn wr F D S sc (.slice wa n wc) { d with safe := keepK d.safe d.wet f j } ∧ Turn (fun q => q = S) w wr) (fun iv _ => (n - intOf iv).toNat)
  case atStart =>
    have h0 := HD.out
    rw [hn] at h0
    exact ⟨0, Nat.zero_le _, rfl, h0, Turn.refl _ _⟩
  case round =>
    clear c1 hn
    obtain ⟨j, hj, rfl, hdj, hTj⟩ := hrel
    have HDJ := Lib.hid hdj
    clear hdj
    by_cases hlt : j < n
    · obtain ⟨x, hx⟩ : ∃ x, d.wet[j]? = some x := ⟨_, List.getElem?_eq_getElem (by rw [HN.out]; exact hlt)⟩
      have hwet := HDJ.out.wet
      have hwok := HDJ.out.ok.wetOk
      dsimp only at hwet hwok
      obtain ⟨g, c, hsl, hcap, hc1, hr1, hr0⟩ := wet_range hwet hwok j x hx
      rw [HN.out] at hsl hcap
      injection hsl with e1 e2 e3
      subst e1
      subst e3
      have hx64 := hwok x (List.mem_of_getElem? hx)
      have hxk := HDJ.out.ok.wet x (List.mem_of_getElem? hx)
      dsimp only at hxk
      rw [keepK_len] at hxk
      have hgd : d.wet.getD j (0, []) = x := by simp [List.getD, hx]
      have hstep : keepK d.safe d.wet f (j + 1) = if f j then (keepK d.safe d.wet f j).set x.1 x.2 else keepK d.safe d.wet f j := by rw [keepK, hgd]
      have HST := Lib.hid hstep
      have hdj : decide ((j : Int) < (n : Int)) = true := by simp; omega
      clear hwet hwok e2 hx hgd hstep hc1 hr1
      obtain ⟨xa, xs⟩ := x
      dsimp only at hx64 hxk
      go_wp2_with (first
        | (with_reducible (show wpList _ _ _ (Oper.mk (some 15) (.load 111 (.tmp 14)) _ _ _ _ :: _) _ _)
           refine wpList_load_mid (op := ⟨some 15, .load 111 (.tmp 14), _, _, _, _⟩) rfl 111 (.tmp 14) rfl g (j * 65) rfl (wrV (xa, xs)) _ hr0 Tryz.underlying111 rfl (size_wr' hx64) ?_)
        | (with_reducible (show wpList _ _ _ (Oper.mk none (.store 111 (.tmp 5) (.tmp 15)) _ _ _ _ :: _) _ _)
           generalize hW : World.alloc wr _ = W
           obtain ⟨hth, T1⟩ := new65 wr W _ hW rfl
           clear hW
           refine wpList_store_mid (op := ⟨none, .store 111 (.tmp 5) (.tmp 15), _, _, _, _⟩) rfl 111 (.tmp 5) (.tmp 15) rfl wr.heap.size 0 (wrV (xa, xs)).toArray rfl rfl (there_wr hth hx64) (size_wr hx64) (all_oneCell_toArray (wrV_one _)) ?_
           have hr2 := World.rangeAt_setCells_same W wr.heap.size 0 (wrV (xa, xs)) (by rw [wrV_len _ hx64]; exact hth)
           have T2 := T1.trans (turn_setCells wr.heap.size (wrV (xa, xs)) 0 W) (fun q hq h => by omega)
           change wpList _ _ _ _ _ (W.setCells wr.heap.size 0 (wrV (xa, xs)))
           generalize W.setCells wr.heap.size 0 (wrV (xa, xs)) = w2 at hr2 T2 ⊢
           clear hth T1
           generalize hB : wr.heap.size = B at hr2 ⊢))
      refine (flush1_any (j : Int) w2).mono ?_
      rintro e w3 ⟨rfl, t3⟩
      have T3 := T2.trans t3 (fun _ _ => id)
      have HD3 := Lib.hid (HDJ.out.turn T3 (fun _ _ => id))
      have hr3 := rangeAt_turn hr2 t3 id
      clear T2 t3 hr2
      have hft : f j = true := by rw [← HFA.out]
      rw [show (true : Bool) = f j from hft.symm]
      clear hft
      cases hf : f j with
      | false =>
        have HF := Lib.hid hf
        clear hf
        go_wp2_with fail
        go_roundw
        case rel =>
          refine ⟨j + 1, by omega, by go_num, ?_, hTj.trans T3 (fun _ _ h => h.elim)⟩
          rw [HST.out, HF.out]; exact HD3.out
        case measure => simp [intOf]; omega
      | true =>
        have HF := Lib.hid hf
        clear hf
        obtain ⟨c0, _⟩ := HD3.out.head.all
        dsimp only [DiskM.head] at c0
        rw [keepK_len] at c0
        have hc5 : w3.cell? ⟨B, 0, none⟩ = some (.int .i64 (xa : Int)) := hr3 0 _ rfl
        have hr5 : w3.rangeAt B 1 (secV xs) := fun q v hv => by
          have := hr3 (q + 1) v (by simpa [wrV] using hv)
          rwa [show 0 + (q + 1) = 1 + q by omega] at this
        have hsx : (keepK d.safe d.wet f j)[xa]? = some ((keepK d.safe d.wet f j).getD xa []) := by
          have h1 := hxk.1
          rw [← keepK_len d.safe d.wet f j] at h1
          simp [List.getD, h1]
        have hths := (HD3.out.safe xa _ hsx).2
        have hBS : S ≠ B := by have := HDJ.out.slt; omega
        have hDS : D ≠ S := HD3.out.nDS
        have hscap : d.safe.length ≤ sc := HD.out.cap
        go_wp2_with fail
        refine wp_region_held_drew (S := fun w' => w'.cell? ⟨D, 0, none⟩ = some (.slice (some ⟨S, 0, none⟩) d.safe.length sc) ∧ w'.cell? ⟨B, 0, none⟩ = some (.int .i64 (xa : Int)) ∧ w'.rangeAt B 1 (secV xs)) (by kernel_rfl) ⟨c0, hc5, hr5⟩ (fun hHeld => ?_)
        refine wpAnyH_take (i := 0) (v := .pointer (some ⟨D, 0, none⟩)) rfl (by kernel_rfl) (by kernel_rfl) (by kernel_rfl) (fun _ _ _ h => h) (Or.inl ⟨by rfl, ?y0⟩) (by assumption) ?r0
        case y0 => (intro w hSw; (try dsimp only at hSw); (try simp only [zq1, zq2, zq3]); go_simp; try with_reducible rfl)
        case r0 =>
        try simp only [Act.put, zq4, zq5, zq6, zq1, zq2, zq3]
        refine wpAnyH_take (i := 1) (v := .pointer (some ⟨D, 0, none⟩)) rfl (by kernel_rfl) (by kernel_rfl) (by kernel_rfl) (fun _ _ _ h => h) (Or.inl ⟨by rfl, ?y1⟩) (by assumption) ?r1
        case y1 => (intro w hSw; (try dsimp only at hSw); (try simp only [zq1, zq2, zq3]); go_simp; try with_reducible rfl)
        case r1 =>
        try simp only [Act.put, zq4, zq5, zq6, zq1, zq2, zq3]
        refine wpAnyH_take (i := 2) (v := .pointer (some ⟨D, 0, none⟩)) rfl (by kernel_rfl) (by kernel_rfl) (by kernel_rfl) (fun _ _ _ h => h) (Or.inl ⟨by rfl, ?y2⟩) (by assumption) ?r2
        case y2 => (intro w hSw; (try dsimp only at hSw); (try simp only [zq1, zq2, zq3]); go_simp; try with_reducible rfl)
        case r2 =>
        try simp only [Act.put, zq4, zq5, zq6, zq1, zq2, zq3]
        refine wpAnyH_take (i := 3) (v := .slice (some ⟨S, 0, none⟩) d.safe.length sc) rfl (by kernel_rfl) (by kernel_rfl) (by kernel_rfl) (fun _ _ _ h => h) (Or.inl ⟨by rfl, ?y3⟩) (by assumption) ?r3
        case y3 => (intro wq hSw; (have hs1 := hSw.1); (have hs2 := hSw.2.1); (try simp only [zq1, zq2, zq3]); go_simp; try with_reducible rfl)
        case r3 =>
        try simp only [Act.put, zq4, zq5, zq6, zq1, zq2, zq3]
        refine wpAnyH_take (i := 4) (v := .pointer (some ⟨B, 0, none⟩)) rfl (by kernel_rfl) (by kernel_rfl) (by kernel_rfl) (fun _ _ _ h => h) (Or.inl ⟨by rfl, ?y4⟩) (by assumption) ?r4
        case y4 => (intro w hSw; (try dsimp only at hSw); (try simp only [zq1, zq2, zq3]); go_simp; try with_reducible rfl)
        case r4 =>
        try simp only [Act.put, zq4, zq5, zq6, zq1, zq2, zq3]
        refine wpAnyH_take (i := 5) (v := .int .i64 (xa : Int)) rfl (by kernel_rfl) (by kernel_rfl) (by kernel_rfl) (fun _ _ _ h => h) (Or.inl ⟨by rfl, ?y5⟩) (by assumption) ?r5
        case y5 => (intro wq hSw; (have hs1 := hSw.1); (have hs2 := hSw.2.1); (try simp only [zq1, zq2, zq3]); go_simp; try with_reducible rfl)
        case r5 =>
        try simp only [Act.put, zq4, zq5, zq6, zq1, zq2, zq3]
        refine wpAnyH_take (i := 6) (v := .pointer (some ⟨B, 1, none⟩)) rfl (by kernel_rfl) (by kernel_rfl) (by kernel_rfl) (fun _ _ _ h => h) (Or.inl ⟨by rfl, ?y6⟩) (by assumption) ?r6
        case y6 => (intro w hSw; (try dsimp only at hSw); (try simp only [zq1, zq2, zq3]); go_simp; try with_reducible rfl)
        case r6 =>
        try simp only [Act.put, zq4, zq5, zq6, zq1, zq2, zq3]
        refine wpAnyH_take (i := 7) (v := .agg (secV xs).toArray) rfl (by kernel_rfl) (by kernel_rfl) (by kernel_rfl) (fun _ _ _ h => h) (yieldsIf_load_mid (by rfl) 108 (.tmp 25) rfl B 1 rfl (secV xs) _ (fun w hw => hw.2.2) Tryz.underlying108 rfl (sec_size' hx64)) (by assumption) ?r7
        case r7 =>
        try simp only [Act.put, zq4, zq5, zq6, zq1, zq2, zq3]
        refine wpAnyH_take (i := 8) (v := .pointer (some ⟨S, xa * 64, none⟩)) rfl (by kernel_rfl) (by kernel_rfl) (by kernel_rfl) (fun _ _ _ h => h) (Or.inl ⟨by rfl, ?y8⟩) (by assumption) ?r8
        case y8 => (intro w hSw; (try dsimp only at hSw); (try simp only [zq1, zq2, zq3]); go_simp; try with_reducible rfl)
        case r8 =>
        try simp only [Act.put, zq4, zq5, zq6, zq1, zq2, zq3]
        refine wpAnyH_ready (rs := [9]) (by kernel_rfl) (by simp) ?_
        refine AllReadyH.cons rfl (fun K hK => ?_) AllReadyH.nil
        rw [if_pos (by rfl)]
        refine wp_store_mid (op := ⟨none, .store 108 (.tmp 27) (.tmp 26), _, _, _, _⟩) 108 (.tmp 27) (.tmp 26) rfl S (xa * 64) (secV xs).toArray rfl rfl (sec_there hths hx64) (sec_size hx64) (all_oneCell_toArray (secV_one xs)) ?_
        have t6 := turn_setCells S (secV xs) (xa * 64) w3.drew
        change K _ (w3.drew.setCells S (xa * 64) (secV xs))
        have hd6 := (HD3.out.turn ((Turn.refl (fun _ => False) w3).drew) (fun _ _ => id)).setSafe xa (by rw [keepK_len]; exact hxk.1) xs hx64 hxk.2.2
        have HD6 := Lib.hid hd6
        have T6 := hTj.trans (T3.drew) (fun _ _ h => h.elim)
        have T7 := T6.trans t6 (fun _ _ h => h)
        refine hK.out _ _ ⟨(t6.cell (p := ⟨D, 0, none⟩) HD3.out.head.lt hDS).trans c0, (t6.cell (p := ⟨B, 0, none⟩) (World.block_lt_of_cell? w3 _ hc5) (fun e => hBS e.symm)).trans hc5, rangeAt_turn hr5 (((Turn.refl (fun q => q = S) w3).drew).trans t6 (fun _ _ h => h)) (fun e => hBS e.symm)⟩ (fun _ => ?_)
        clear hK K
        try simp only [Act.put, zq4, zq5, zq6, zq1, zq2, zq3]
        refine wpAnyH_done (by kernel_rfl) ?_ _
        clear hd6 t6 T6
        generalize w3.drew.setCells S (xa * 64) (secV xs) = w6 at HD6 T7 ⊢
        go_wp2_with fail
        go_roundw
        case rel =>
          refine ⟨j + 1, by omega, by go_num, ?_, T7⟩
          rw [HST.out, HF.out]; exact HD6.out
        case measure => simp [intOf]; omega
    · obtain rfl : j = n := by omega
      have hdj : decide ((j : Int) < (j : Int)) = false := by simp
      obtain ⟨_, c1, _⟩ := HDJ.out.head.all
      have f1 := HDJ.out.head.free 1
      dsimp only [DiskM.head] at c1
      have HCL := Lib.hid HDJ.out.clear
      have t7 := turn_cell wr D 1 (.slice none 0 0)
      go_wp2_with fail
      go_end0
      refine ⟨rfl, ?_, (hTj.mono (fun _ _ h => .inl h)).trans t7 (fun _ _ h => .inr h)⟩
      have h9 := HCL.out
      rw [← HN.out] at h9
      exact h9
theorem src_turn_pos {S : Nat → Prop} {w w' : World} {v : Value} {xs : List Int} (h : Src w v xs) (ht : Turn S w w') (hn : 0 < xs.length → ∀ k, v.ownBlock = some k → ¬ S k) : Src w' v xs := by
  by_cases h0 : 0 < xs.length
  · exact h.turn ht (hn h0)
  · have hx : xs = [] := List.eq_nil_of_length_eq_zero (by omega)
    subst hx
    rcases h with (⟨rfl, _⟩ | ⟨g, o, cap, rfl, _, _⟩) | ⟨x, c, rfl, _⟩
    · exact .inl (.inl ⟨rfl, rfl⟩)
    · exact .inr ⟨_, _, rfl, rfl⟩
    · exact .inr ⟨_, _, rfl, rfl⟩
/-- Bit i of a mask, the mask again and again. -/
def maskB (ms : List Int) (i : Nat) : Bool := if ms.length = 0 then false else decide ((ms.getD (i / 8 % ms.length) 0).toNat / 2 ^ (i % 8) % 2 = 1)
end Go.Proofs.YtboofamenpcnhaaGreatDoor
namespace Go.Proofs.YtboofamenpcnhaaGreatDoor
set_option maxRecDepth 100000
open Go.RowKit
set_option linter.unusedVariables false
set_option linter.unusedSimpArgs false
def DiskM.flushed (d : DiskM) : DiskM := { d with safe := keepK d.safe d.wet (fun _ => true) d.wet.length, wet := [] }
def DiskM.crashed (d : DiskM) (ms : List Int) : DiskM := { d with safe := keepK d.safe d.wet (maskB ms) d.wet.length, wet := [], off := false, armed := false, left := 0 }
def DiskPost (w : World) (F : Nat → Prop) (D S sc : Nat) (wv : Value) (d' : DiskM) (r : Value) (e : Ending) (w' : World) : Prop :=
  e = .returned r ∧ DiskIn w' F D S sc wv d' ∧ Turn F w w'
set_option maxHeartbeats 1600000 in
set_option maxRecDepth 100000 in
theorem flush_off (w : World) (F : Nat → Prop) (D S sc : Nat) (wv : Value) (d : DiskM) (h : DiskIn w F D S sc wv d) (hoff : d.off = true) :
    Calls Tryz.prog 24 #[.pointer (some ⟨D, 0, none⟩)] w fun e w' => e = .returned (.int .i64 9) ∧ w' = w := by
  obtain ⟨_, _, _, _, _, c5⟩ := h.head.all
  dsimp only [DiskM.head] at c5
  rw [hoff] at c5
  clear h
  go_enter Tryz.func24, Tryz.ntmps24
  go_wp2_with fail
  go_ret
  exact ⟨rfl, rfl⟩
set_option maxHeartbeats 1600000 in
set_option maxRecDepth 100000 in
theorem flush_stop (w : World) (F : Nat → Prop) (D S sc : Nat) (wv : Value) (d : DiskM) (h : DiskIn w F D S sc wv d) (hoff : d.off = false) (he : d.actE = 9) (hb : d.acts < 4611686018427387904) (hl : d.left < 4611686018427387904) :
    Calls Tryz.prog 24 #[.pointer (some ⟨D, 0, none⟩)] w (DiskPost w F D S sc wv d.act (.int .i64 9)) := by
  obtain ⟨_, _, _, _, _, c5⟩ := h.head.all
  dsimp only [DiskM.head] at c5
  rw [hoff] at c5
  have HD := Lib.hid h
  clear h
  go_enter Tryz.func24, Tryz.ntmps24
  go_wp2_with fail
  refine (disk_act w F D S sc wv d HD.out hb hl).mono ?_
  rintro e w1 ⟨rfl, hd1, t1⟩
  rw [he]
  have H1 := Lib.hid hd1
  clear hd1 c5
  go_wp2_with fail
  go_ret
  exact ⟨rfl, H1.out, t1.mono (fun q hq h => h ▸ HD.out.fD)⟩
set_option maxHeartbeats 1600000 in
set_option maxRecDepth 100000 in
theorem flush_good (w : World) (F : Nat → Prop) (D S sc : Nat) (wv : Value) (d : DiskM) (h : DiskIn w F D S sc wv d) (hoff : d.off = false) (he : d.actE = 0) (hb : d.acts < 4611686018427387904) (hl : d.left < 4611686018427387904) (hwl : d.wet.length ≤ 1000000000000) :
    Calls Tryz.prog 24 #[.pointer (some ⟨D, 0, none⟩)] w (DiskPost w F D S sc (.slice none 0 0) d.act.flushed (.int .i64 0)) := by
  obtain ⟨_, _, _, _, _, c5⟩ := h.head.all
  dsimp only [DiskM.head] at c5
  rw [hoff] at c5
  have HD := Lib.hid h
  clear h
  go_enter Tryz.func24, Tryz.ntmps24
  go_wp2_with fail
  refine (disk_act w F D S sc wv d HD.out hb hl).mono ?_
  rintro e w1 ⟨rfl, hd1, t1⟩
  rw [he]
  have H1 := Lib.hid hd1
  clear hd1 c5
  go_wp2_with fail
  refine (keep_all w1 F D S sc wv d.act H1.out (by rw [(DiskM.act_same d).2.1]; exact hwl)).mono ?_
  rintro e w2 ⟨rfl, hd2, t2⟩
  have H2 := Lib.hid hd2
  clear hd2
  go_wp2_with fail
  go_ret
  refine ⟨rfl, H2.out, (t1.mono (fun q hq h => h ▸ HD.out.fD)).trans t2 (fun q hq h => ?_)⟩
  rcases h with h | h
  · exact h ▸ HD.out.fS
  · exact h ▸ HD.out.fD
end Go.Proofs.YtboofamenpcnhaaGreatDoor
namespace Go.Proofs.YtboofamenpcnhaaGreatDoor
set_option maxRecDepth 100000
open Go.RowKit
set_option linter.unusedVariables false
set_option linter.unusedSimpArgs false
theorem Tryz.info108 : (Tryz.prog.info? 108).map (fun i => (i.zero, i.size, i.bytes)) = some (some (.agg (secV noughts).toArray), 64, 64) := by kernel_rfl
def newM (n : Nat) : DiskM := ⟨List.replicate n noughts, [], 0, false, 0, false⟩
theorem noughts_ok : BytesOk noughts := fun x hx => by
  have := List.eq_of_mem_replicate hx; omega
theorem made53 (n : Nat) : ∀ j, j < n * 64 → (madeCells (Value.agg (secV noughts).toArray).cells (n * 64))[j]? = some (.int .u8 0) := fun j hj => by
  have e : (Value.agg (secV noughts).toArray).cells = Array.replicate 64 (.int .u8 0) := by kernel_rfl
  rw [e]
  have hs : j % 64 < 64 := Nat.mod_lt _ (by omega)
  simp [madeCells, hj]
  rw [getElem!_pos _ _ (by simpa using hs)]
  simp
theorem secV_noughts (j : Nat) (v : Value) (h : (secV noughts)[j]? = some v) : j < 64 ∧ v = .int .u8 0 := by
  have hj : j < (secV noughts).length := (List.getElem?_eq_some_iff.1 h).1
  rw [secV_len, noughts_len] at hj
  refine ⟨hj, ?_⟩
  have : (secV noughts)[j]? = some (.int .u8 0) := by unfold secV noughts; rw [List.map_replicate, List.getElem?_replicate, if_pos hj]
  rw [this] at h
  exact (Option.some.inj h).symm
/-- A row of sectors of noughts. -/
theorem safe_made (w : World) (n : Nat) : SafeAt (w.alloc (.cells (madeCells (Value.agg (secV noughts).toArray).cells (n * 64)) 108)) w.heap.size (List.replicate n noughts) := fun i s hs => by
  have hb := heap_alloc_new w (.cells (madeCells (Value.agg (secV noughts).toArray).cells (n * 64)) 108)
  have hi : i < n := by have := (List.getElem?_eq_some_iff.1 hs).1; simpa using this
  obtain rfl : noughts = s := by
    rw [List.getElem?_replicate, if_pos hi] at hs; exact Option.some.inj hs
  refine ⟨fun j v hv => ?_, fun j hj => ⟨?_, frozen_of_row _ _ _ _ 108 hb⟩⟩
  · obtain ⟨hj, rfl⟩ := secV_noughts j v hv
    rw [cell_of_row _ _ _ _ 108 (0, 0) hb, made53 n _ (by omega)]
  · rw [cell_of_row _ _ _ _ 108 (0, 0) hb, made53 n _ (by omega)]; rfl
theorem run_make46 (n : Nat) (hn : n ≤ 4096) (w : World) : (Instr.makeSlice 98 (.int .i64 (n : Int)) (.int .i64 (n : Int))).run Tryz.prog w = .ok (.slice (some ⟨w.heap.size, 0, none⟩) n n) (w.alloc (.cells (madeCells (Value.agg (secV noughts).toArray).cells (n * 64)) 108)) := by
  obtain ⟨i0, hi, hz0, hz1, hz2⟩ := info_parts Tryz.info108
  have h := run_make (P := Tryz.prog) w 98 108 i0 _ Tryz.underlying98 hi hz0 .i64 .i64 (n : Int) (n : Int) (by omega) (by omega) (by rw [hz2]; omega) (by omega)
  rw [h, hz1, Int.toNat_natCast]
def NewPost (w : World) (n : Nat) (e : Ending) (w' : World) : Prop :=
  ∃ F D S sc, e = .returned (.pointer (some ⟨D, 0, none⟩)) ∧ DiskIn w' F D S sc (.slice none 0 0) (newM n) ∧ (∀ k, F k → w.heap.size ≤ k) ∧ Turn (fun _ => False) w w'
theorem newPost_mk (w : World) (n : Nat) (hn : n ≤ 4096) (w2 : World) (h : (w.alloc (.cells (madeCells (Value.agg (secV noughts).toArray).cells (n * 64)) 108)).alloc (.cells #[.slice (some ⟨w.heap.size, 0, none⟩) n n, .slice none 0 0, .int .i64 0, .bool false, .int .i64 0, .bool false] 101) = w2) :
    NewPost w n (.returned (.pointer (some ⟨w.heap.size + 1, 0, none⟩))) w2 := by
  subst h
  have hsafe := safe_made w n
  have hlen : (w.alloc (.cells (madeCells (Value.agg (secV noughts).toArray).cells (n * 64)) 108)).heap.size = w.heap.size + 1 := by simp
  have T1 := (Turn.refl (fun _ => False) w).alloc (.cells (madeCells (Value.agg (secV noughts).toArray).cells (n * 64)) 108)
  generalize w.alloc (.cells (madeCells (Value.agg (secV noughts).toArray).cells (n * 64)) 108) = w1 at hsafe hlen T1
  have T2 := (Turn.refl (fun _ => False) w1).alloc (.cells #[.slice (some ⟨w.heap.size, 0, none⟩) n n, .slice none 0 0, .int .i64 0, .bool false, .int .i64 0, .bool false] 101)
  have hh := heap_alloc_new w1 (.cells #[.slice (some ⟨w.heap.size, 0, none⟩) n n, .slice none 0 0, .int .i64 0, .bool false, .int .i64 0, .bool false] 101)
  rw [hlen] at hh
  have hz := T2.size
  refine ⟨fun k => k = w.heap.size + 1 ∨ k = w.heap.size, w.heap.size + 1, w.heap.size, n, rfl, ?_, fun k hk => by omega, T1.trans T2 (fun _ _ => id)⟩
  refine { head := ?_, cap := by simp [newM], safe := hsafe.turn T2 id, slt := by omega, wet := World.ownsRow_nil _ _ _ _, fD := .inl rfl, fS := .inr rfl, fw := fun q hq => (by cases hq), nDS := by omega, nDw := fun e => (by cases e), nSw := fun e => (by cases e), ok := ⟨fun s hs => ?_, fun x hx => (by cases hx)⟩, few := by simpa [newM] using hn }
  · show _ = some (Obj.cells (HeadM.cells _) 101 (0, 0))
    rw [hh]
    simp [HeadM.cells, DiskM.head, newM]
  · have := List.eq_of_mem_replicate hs
    subst this
    exact ⟨noughts_len, noughts_ok⟩
set_option maxHeartbeats 1600000 in
set_option maxRecDepth 100000 in
theorem new_any (n : Nat) (w : World) (i : Int) (hi : min (max i 0) 4096 = (n : Int)) : Calls Tryz.prog 19 #[.int .i64 i] w (NewPost w n) := by
  have hn : n ≤ 4096 := by omega
  have hmk := run_make46 n hn w
  by_cases h1 : i < 0
  · obtain rfl : n = 0 := by omega
    obtain ⟨w1, hw1⟩ : ∃ w1, w.alloc (.cells (madeCells (Value.agg (secV noughts).toArray).cells (0 * 64)) 108) = w1 := ⟨_, rfl⟩
    have hmk0 : (Instr.makeSlice 98 (.int .i64 0) (.int .i64 0)).run Tryz.prog w = .ok (.slice (some ⟨w.heap.size, 0, none⟩) 0 0) w1 := by rw [← hw1]; exact hmk
    have hsz : w1.heap.size = w.heap.size + 1 := by rw [← hw1]; simp
    have HW := Lib.hid hw1
    clear hmk hw1
    go_enter Tryz.func19, Tryz.ntmps19
    go_wp2_with fail
    go_ret
    refine newPost_mk w 0 hn _ ?_
    rw [HW.out]
  · by_cases h2 : i ≤ 4096
    · obtain rfl : i = (n : Int) := by omega
      go_enter Tryz.func19, Tryz.ntmps19
      go_wp2_with fail
      go_ret
      exact newPost_mk w n hn _ rfl
    · obtain rfl : n = 4096 := by omega
      obtain ⟨w1, hw1⟩ : ∃ w1, w.alloc (.cells (madeCells (Value.agg (secV noughts).toArray).cells (4096 * 64)) 108) = w1 := ⟨_, rfl⟩
      have hmk0 : (Instr.makeSlice 98 (.int .i64 4096) (.int .i64 4096)).run Tryz.prog w = .ok (.slice (some ⟨w.heap.size, 0, none⟩) 4096 4096) w1 := by rw [← hw1]; exact hmk
      have hsz : w1.heap.size = w.heap.size + 1 := by rw [← hw1]; simp
      have HW := Lib.hid hw1
      clear hmk hw1
      go_enter Tryz.func19, Tryz.ntmps19
      go_wp2_with fail
      go_ret
      refine newPost_mk w 4096 hn _ ?_
      rw [HW.out]
end Go.Proofs.YtboofamenpcnhaaGreatDoor
