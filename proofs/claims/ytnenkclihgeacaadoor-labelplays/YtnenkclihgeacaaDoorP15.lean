/- Own texts, packed: Sl, Fi, Ly. -/
import Derived.Test.YtnenkclihgeacaaDoorP14
import Derived.Lib.BufferWrite
/- Own contracts: the sector that tells of a ref. No statement is proved here. -/
namespace Go.Proofs.YtnenkclihgeacaaDoor
set_option maxRecDepth 100000
open Go.RowKit
set_option linter.unusedVariables false
set_option linter.unusedSimpArgs false

def numsB (s : ByteArray) : List Int := s.data.toList.map fun b => (b.toNat : Int)
theorem numsB_len (s : ByteArray) : (numsB s).length = s.size := by simp [numsB]
theorem numsB_ok (s : ByteArray) : BytesOk (numsB s) := fun x hx => by
  simp only [numsB, List.mem_map] at hx
  obtain ⟨b, _, rfl⟩ := hx
  have := b.toNat_lt
  omega
def fastI (b : Bool) : Int := if b then 1 else 0
/-- What the sector of a ref tells, ahead of its seal. -/
def refB (r : Rf) : List Int := [1, fastI r.fast, (r.name.size : Int)] ++ numsB r.name ++ List.replicate (12 - r.name.size) 0 ++ r.key
theorem refB_len {r : Rf} (h : r.Ok) (hn : r.name.size ≤ 12) : (refB r).length = 47 := by simp [refB, numsB_len, h.len]; omega
theorem refB_ok {r : Rf} (h : r.Ok) (hn : r.name.size ≤ 12) : BytesOk (refB r) := fun x hx => by
  simp only [refB, List.mem_append, List.mem_cons, List.not_mem_nil, or_false] at hx
  rcases hx with (((rfl | rfl | rfl) | hx) | hx) | hx
  · omega
  · cases r.fast <;> simp [fastI]
  · omega
  · exact numsB_ok _ x hx
  · rw [List.eq_of_mem_replicate hx]; omega
  · exact h.ok x hx
def body0 (r : Rf) : List Int := [1, fastI r.fast, (r.name.size : Int)] ++ List.replicate 44 0
theorem map_nums (s : ByteArray) : Lib.byteCells s.data.toList = (numsB s).map (Value.int .u8) := by simp [Lib.byteCells, numsB]
/-- The name is copied. -/
theorem copy_name (w : World) (P : Nat) (r : Rf) (hn : r.name.size ≤ 12) (h : BytesAt w P 5 (body0 r)) (ty : TypeId) :
    ∃ w', (Builtin.copy_ #[31, 9] ty #[.slice (some ⟨P, 3, none⟩) 12 44, .string r.name]).run Tryd.prog w = .ok (.int .i64 (r.name.size : Int)) w' ∧
      BytesAt w' P 5 ([1, fastI r.fast, (r.name.size : Int)] ++ numsB r.name ++ List.replicate (44 - r.name.size) 0) ∧ Turn (fun k => k = P) w w' := by
  have hr := Lib.run_copy_row_string (P := Tryd.prog) w 31 9 ty 5 P 3 12 44 r.name _ 5 Tryd.underlying31 info5s h hn (by simp [body0]; omega)
  refine ⟨_, hr, ?_, turn_setRow _ _ _⟩
  unfold BytesAt
  rw [setRow_heap _ _ _ _ _ _ h]
  congr 2
  apply congrArg List.toArray
  rw [map_nums]
  have e1 : ((body0 r).map (Value.int .u8)).take 3 = [1, fastI r.fast, (r.name.size : Int)].map (Value.int .u8) := rfl
  have e2 : ((body0 r).map (Value.int .u8)).drop (3 + r.name.size) = (List.replicate (44 - r.name.size) (0 : Int)).map (Value.int .u8) := by
    rw [← List.map_drop, body0, ← List.drop_drop]
    simp only [List.cons_append, List.nil_append, List.drop_succ_cons, List.drop_zero, List.drop_replicate]
  rw [show ((body0 r).map (Value.int .u8)).toArray.toList = (body0 r).map (Value.int .u8) from rfl, e1, e2]
  simp
/-- The key is copied. -/
theorem copy_key (w : World) (P R : Nat) (r : Rf) (hr : r.Ok) (hn : r.name.size ≤ 12) (h : BytesAt w P 5 ([1, fastI r.fast, (r.name.size : Int)] ++ numsB r.name ++ List.replicate (44 - r.name.size) 0)) (hk : w.rangeAt R 0 r.vals) (ty : TypeId) :
    ∃ w', (Builtin.copy_ #[31, 31] ty #[.slice (some ⟨P, 15, none⟩) 32 32, .slice (some ⟨R, 1, none⟩) 32 32]).run Tryd.prog w = .ok (.int .i64 32) w' ∧
      BytesAt w' P 5 (refB r) ∧ Turn (fun k => k = P) w w' := by
  have hc := run_copy_row (P := Tryd.prog) w 31 31 ty 5 P 15 32 32 ⟨R, 1, none⟩ 32 32 _ 5 (r.key.map (Value.int .u8)) Tryd.underlying31 info5s h (by simp [hr.len]) (fun j v hj => by
      have h2 := hk (1 + j) v (by
        rw [Rf.vals, Nat.add_comm, List.getElem?_cons_succ, List.getElem?_append_left (List.getElem?_eq_some_iff.1 hj).1]
        exact hj)
      rw [Nat.zero_add] at h2
      rcases j with _ | j
      · exact h2
      · simpa [Addr.add] using h2) (by simp [numsB_len, hr.len]; omega) (fun v hv => by simp only [List.mem_map] at hv; obtain ⟨x, _, rfl⟩ := hv; rfl)
  have hl : goInt (r.key.map (Value.int .u8)).length = .int .i64 32 := by simp [goInt, hr.len]
  rw [hl] at hc
  refine ⟨_, hc, ?_, turn_setRow _ _ _⟩
  unfold BytesAt
  rw [setRow_heap _ _ _ _ _ _ h]
  congr 2
  apply congrArg List.toArray
  have e1 : (([1, fastI r.fast, (r.name.size : Int)] ++ numsB r.name ++ List.replicate (44 - r.name.size) 0).map (Value.int .u8)).take 15 = ([1, fastI r.fast, (r.name.size : Int)] ++ numsB r.name ++ List.replicate (12 - r.name.size) 0).map (Value.int .u8) := by
    rw [← List.map_take, List.take_append, List.take_of_length_le (by simp [numsB_len]; omega)]
    congr 2
    simp only [List.length_append, List.length_cons, List.length_nil, numsB_len, List.take_replicate]
    congr 1
    omega
  have e2 : (([1, fastI r.fast, (r.name.size : Int)] ++ numsB r.name ++ List.replicate (44 - r.name.size) 0).map (Value.int .u8)).drop (15 + (r.key.map (Value.int .u8)).length) = [] := by
    apply List.drop_of_length_le
    simp [numsB_len, hr.len]; omega
  show List.take 15 (([1, fastI r.fast, (r.name.size : Int)] ++ numsB r.name ++ List.replicate (44 - r.name.size) 0).map (Value.int .u8)) ++ _ ++ List.drop (15 + _) (([1, fastI r.fast, (r.name.size : Int)] ++ numsB r.name ++ List.replicate (44 - r.name.size) 0).map (Value.int .u8)) = _
  rw [e1, e2]
  simp [refB]
def SlPost (w : World) (r : Rf) (e : Ending) (w' : World) : Prop :=
  ∃ B, e = .returned (.slice (some ⟨B, 0, none⟩) 64 64) ∧ BytesAt w' B 5 (sealB (refB r)) ∧ w.heap.size ≤ B ∧ Turn (fun _ => False) w w'
theorem body_t (r : Rf) (h : r.fast = true) : (((List.replicate 47 (0 : Int)).set 0 1).set 2 (r.name.size : Int)).set 1 1 = body0 r := by simp [body0, fastI, h, List.replicate]
theorem body_f (r : Rf) (h : r.fast = false) : ((List.replicate 47 (0 : Int)).set 0 1).set 2 (r.name.size : Int) = body0 r := by simp [body0, fastI, h, List.replicate]
set_option maxHeartbeats 4000000 in
theorem sealed_any (r : Rf) (w : World) (hr : r.Ok) (hn : r.name.size ≤ 12) (ht : Tab w) : Calls Tryd.prog 33 #[.agg r.vals.toArray] w (SlPost w r) := by
  have hb := box_alloc w 37 r.vals
  obtain ⟨w1, hw1⟩ : ∃ w1, w.alloc (.cells r.vals.toArray 37) = w1 := ⟨_, rfl⟩
  rw [hw1] at hb
  have hmk : (Instr.makeSlice 31 (.int .i64 47) (.int .i64 47)).run Tryd.prog w1 = .ok (.slice (some ⟨w1.heap.size, 0, none⟩) 47 47) (w1.alloc (.cells (Array.replicate 47 (.int .u8 0)) 5)) := run_make_bytes 47 47 (by omega) (by omega) w1
  have hB1 := made_at w1 47
  have t2 := (Turn.refl (fun _ => False) w1).alloc (.cells (Array.replicate 47 (.int .u8 0)) 5)
  obtain ⟨w2, hw2⟩ : ∃ w2, w1.alloc (.cells (Array.replicate 47 (.int .u8 0)) 5) = w2 := ⟨_, rfl⟩
  rw [hw2] at hmk hB1 t2
  obtain ⟨P, hP⟩ : ∃ P, w1.heap.size = P := ⟨_, rfl⟩
  have hPR : P = w.heap.size + 1 := by rw [← hP, hb.size]
  rw [hP] at hmk hB1
  have hr2 : w2.rangeAt w.heap.size 0 r.vals := rangeAt_turn hb.range t2 id
  have c0 : w2.cell? ⟨w.heap.size, 0, none⟩ = some (.string r.name) := by have := hr2 0 _ r.v0; simpa using this
  have c33 : w2.cell? ⟨w.heap.size, 33, none⟩ = some (.bool r.fast) := by have := hr2 33 _ (r.v33 hr); simpa using this
  have hwr : IntKind.u8.wrap (r.name.size : Int) = (r.name.size : Int) := by rw [IntKind.wrap_u8]; omega
  have k0 := hB1.cell 0 (by simp)
  have k2 := hB1.cell 2 (by simp)
  have k1 := hB1.cell 1 (by simp)
  have hne1 : ¬ w.heap.size = P := by omega
  have hne2 : ¬ P = w.heap.size := by omega
  have f0 := hB1.open_
  have HB1 := Lib.hid hB1
  have HT2 := Lib.hid (hb.turn.trans t2 (fun _ _ => id))
  have HR2 := Lib.hid hr2
  have HPR := Lib.hid hPR
  clear hb hw2 t2 hB1 hr2 hP hPR
  cases hf : r.fast
  · rw [hf] at c33
    go_enter Tryd.func33, Tryd.ntmps33
    go_wp2_with fail
    have hb3 : BytesAt ((w2.setCell ⟨P, 0, none⟩ (.int .u8 1)).setCell ⟨P, 2, none⟩ (.int .u8 (r.name.size : Int))) P 5 (body0 r) := by
      rw [← body_f r hf]
      exact (HB1.out.set 0 1).set 2 _
    have t3 : Turn (fun k => k = P) w2 ((w2.setCell ⟨P, 0, none⟩ (.int .u8 1)).setCell ⟨P, 2, none⟩ (.int .u8 (r.name.size : Int))) := ((Turn.refl (fun k => k = P) w2).setCell (fun _ => rfl) _).setCell (fun _ => rfl) _
    obtain ⟨w3, hw3⟩ : ∃ w3, ((w2.setCell ⟨P, 0, none⟩ (.int .u8 1)).setCell ⟨P, 2, none⟩ (.int .u8 (r.name.size : Int))) = w3 := ⟨_, rfl⟩
    rw [hw3] at hb3 t3 ⊢
    have ht3 : Turn (fun _ => False) w w3 := HT2.out.trans t3 (fun q hq e => by have := HPR.out; omega)
    have hr3 : w3.rangeAt w.heap.size 0 r.vals := rangeAt_turn HR2.out t3 (fun e => by have := HPR.out; omega)
    have HT3 := Lib.hid ht3
    have HR3 := Lib.hid hr3
    have c3 : w3.drew.cell? ⟨w.heap.size, 0, none⟩ = some (.string r.name) := by have := hr3 0 _ r.v0; simpa using this
    obtain ⟨w4, hc4, hb4, t4⟩ := copy_name w3.drew P r hn hb3.drew 3
    have HB4 := Lib.hid hb4
    have HT4 := Lib.hid t4
    clear hb3 t3 ht3 hr3 hw3 c0 c33 k0 k1 k2 f0 hb4 t4 hmk hw1 HR2 HB1 HT2
    go_region
    have hr4 : w4.rangeAt w.heap.size 0 r.vals := rangeAt_turn (w := w3.drew) HR3.out HT4.out (fun e => by have := HPR.out; omega)
    obtain ⟨w5, hc5, hb5, t5⟩ := copy_key w4.drew P w.heap.size r hr hn HB4.out.drew hr4 3
    have HT5 := Lib.hid ((HT3.out.drew.trans HT4.out (fun q hq e => by have := HPR.out; omega)).drew.trans t5 (fun q hq e => by have := HPR.out; omega))
    have HB5 := Lib.hid hb5
    clear hr4 hb5 t5 hc4 c3
    go_wp2_with fail
    go_region
    have hrd : Reads w5 (.slice (some ⟨P, 0, none⟩) 47 47) (refB r) := .inr ⟨P, 0, 47, by rw [refB_len hr hn], by rw [refB_len hr hn]; omega, fun i hi => by rw [Nat.zero_add]; exact HB5.out.cell i hi⟩
    have HRD := Lib.hid hrd
    clear hrd hc5
    go_wp2_with fail
    refine (seal_any _ (refB r) w5 (.inl HRD.out) (refB_ok hr hn) (ht.turn HT5.out)).mono ?_
    rintro e w6 ⟨rfl, hb6, t6⟩
    have HB6 := Lib.hid hb6
    have HT6 := Lib.hid (HT5.out.trans t6 (fun _ _ => id))
    clear hb6 t6
    go_wp2_with fail
    go_ret
    exact ⟨w5.heap.size, rfl, HB6.out, HT5.out.size, HT6.out⟩
  · rw [hf] at c33
    go_enter Tryd.func33, Tryd.ntmps33
    go_wp2_with fail
    have hb3 : BytesAt (((w2.setCell ⟨P, 0, none⟩ (.int .u8 1)).setCell ⟨P, 2, none⟩ (.int .u8 (r.name.size : Int))).setCell ⟨P, 1, none⟩ (.int .u8 1)) P 5 (body0 r) := by
      rw [← body_t r hf]
      exact ((HB1.out.set 0 1).set 2 _).set 1 1
    have t3 : Turn (fun k => k = P) w2 (((w2.setCell ⟨P, 0, none⟩ (.int .u8 1)).setCell ⟨P, 2, none⟩ (.int .u8 (r.name.size : Int))).setCell ⟨P, 1, none⟩ (.int .u8 1)) := (((Turn.refl (fun k => k = P) w2).setCell (fun _ => rfl) _).setCell (fun _ => rfl) _).setCell (fun _ => rfl) _
    obtain ⟨w3, hw3⟩ : ∃ w3, (((w2.setCell ⟨P, 0, none⟩ (.int .u8 1)).setCell ⟨P, 2, none⟩ (.int .u8 (r.name.size : Int))).setCell ⟨P, 1, none⟩ (.int .u8 1)) = w3 := ⟨_, rfl⟩
    rw [hw3] at hb3 t3 ⊢
    have ht3 : Turn (fun _ => False) w w3 := HT2.out.trans t3 (fun q hq e => by have := HPR.out; omega)
    have hr3 : w3.rangeAt w.heap.size 0 r.vals := rangeAt_turn HR2.out t3 (fun e => by have := HPR.out; omega)
    have HT3 := Lib.hid ht3
    have HR3 := Lib.hid hr3
    have c3 : w3.drew.cell? ⟨w.heap.size, 0, none⟩ = some (.string r.name) := by have := hr3 0 _ r.v0; simpa using this
    obtain ⟨w4, hc4, hb4, t4⟩ := copy_name w3.drew P r hn hb3.drew 3
    have HB4 := Lib.hid hb4
    have HT4 := Lib.hid t4
    clear hb3 t3 ht3 hr3 hw3 c0 c33 k0 k1 k2 f0 hb4 t4 hmk hw1 HR2 HB1 HT2
    go_region
    have hr4 : w4.rangeAt w.heap.size 0 r.vals := rangeAt_turn (w := w3.drew) HR3.out HT4.out (fun e => by have := HPR.out; omega)
    obtain ⟨w5, hc5, hb5, t5⟩ := copy_key w4.drew P w.heap.size r hr hn HB4.out.drew hr4 3
    have HT5 := Lib.hid ((HT3.out.drew.trans HT4.out (fun q hq e => by have := HPR.out; omega)).drew.trans t5 (fun q hq e => by have := HPR.out; omega))
    have HB5 := Lib.hid hb5
    clear hr4 hb5 t5 hc4 c3
    go_wp2_with fail
    go_region
    have hrd : Reads w5 (.slice (some ⟨P, 0, none⟩) 47 47) (refB r) := .inr ⟨P, 0, 47, by rw [refB_len hr hn], by rw [refB_len hr hn]; omega, fun i hi => by rw [Nat.zero_add]; exact HB5.out.cell i hi⟩
    have HRD := Lib.hid hrd
    clear hrd hc5
    go_wp2_with fail
    refine (seal_any _ (refB r) w5 (.inl HRD.out) (refB_ok hr hn) (ht.turn HT5.out)).mono ?_
    rintro e w6 ⟨rfl, hb6, t6⟩
    have HB6 := Lib.hid hb6
    have HT6 := Lib.hid (HT5.out.trans t6 (fun _ _ => id))
    clear hb6 t6
    go_wp2_with fail
    go_ret
    exact ⟨w5.heap.size, rfl, HB6.out, HT5.out.size, HT6.out⟩
end Go.Proofs.YtnenkclihgeacaaDoor
/- Own contracts: a ref by its name; the least place that is free. No statement is proved here. -/
namespace Go.Proofs.YtnenkclihgeacaaDoor
set_option maxRecDepth 100000
open Go.RowKit
set_option linter.unusedVariables false
set_option linter.unusedSimpArgs false

theorem find_any (w : World) (T J : Nat) (rs : List Rf) (s : ByteArray) (ht : TbAt w T J rs) (hs : s ≠ ByteArray.empty) : Calls Tryd.prog 31 #[.pointer (some ⟨T, 0, none⟩), .string s] w (FdPost w rs (fun o => decide (o.name = s))) := by
  have hb := box_alloc w 9 [.string s]
  have e1 : ¬ s.toList = [] := fun h => hs (by
    have := (toList_nil s).1 h
    exact toList_inj (h.trans ((toList_nil _).2 rfl).symm))
  have e2 : s.toList.isEmpty = false := by simpa using e1
  obtain ⟨w1, hw1⟩ : ∃ w1, w.alloc (.cells #[.string s] 9) = w1 := ⟨_, rfl⟩
  rw [show w.alloc (.cells [Value.string s].toArray 9) = w1 from hw1] at hb
  have c0 := hb.cell 0 _ rfl
  have HB := Lib.hid hb
  have HT := Lib.hid (ht.turn hb.turn id)
  have HC := Lib.hid c0
  have HL := Lib.hid (show w.heap.size < w1.heap.size by rw [hb.size]; omega)
  clear hb ht hs
  go_enter Tryd.func31, Tryd.ntmps31
  go_wp2_with fail
  refine (idxf58 w1 T 1 12 rs HT.out.row HT.out.len (by omega) w.heap.size s HC.out HL.out).mono ?_
  rintro e w2 ⟨t2, h2⟩
  have HT2 := Lib.hid (HB.out.turn.trans t2 (fun _ _ => id))
  rcases h2 with ⟨k, hk, h3, h4, rfl⟩ | ⟨h3, rfl⟩
  · clear t2
    go_wp2_with fail
    go_ret
    exact ⟨HT2.out, .inl ⟨k, hk, h3, h4, rfl⟩⟩
  · clear t2
    go_wp2_with fail
    go_ret
    exact ⟨HT2.out, .inr ⟨h3, rfl⟩⟩
theorem find_none (v : Value) (w : World) (hv : v = .pointer none ∨ ∃ T, v = .pointer (some ⟨T, 0, none⟩)) (s : ByteArray) (hs : v = .pointer none ∨ s = ByteArray.empty) : Calls Tryd.prog 31 #[v, .string s] w fun e w' => e = .returned (.int .i64 (-1)) ∧ Turn (fun _ => False) w w' := by
  have hb := box_alloc w 9 [.string s]
  obtain ⟨w1, hw1⟩ : ∃ w1, w.alloc (.cells #[.string s] 9) = w1 := ⟨_, rfl⟩
  rw [show w.alloc (.cells [Value.string s].toArray 9) = w1 from hw1] at hb
  have c0 := hb.cell 0 _ rfl
  have HB := Lib.hid hb
  clear hb
  by_cases hn : v = .pointer none
  · subst hn
    clear hv hs
    go_enter Tryd.func31, Tryd.ntmps31
    go_wp2_with fail
    go_ret
    exact ⟨rfl, HB.out.turn⟩
  · obtain ⟨T, rfl⟩ := hv.resolve_left hn
    have h0 := hs.resolve_left hn
    subst h0
    clear hv hs hn
    have e1 : ByteArray.empty.toList = [] := (toList_nil _).2 rfl
    go_enter Tryd.func31, Tryd.ntmps31
    go_wp2_with fail
    go_ret
    exact ⟨rfl, HB.out.turn⟩
theorem exec_eql_rf (ev : Operand → Value) (op : Oper) {a b : Operand} (ho : op.op = .binOp .eql 37 a b 37) (o1 o2 : Rf) (w : World) (h1 : ev a = .agg o1.vals.toArray) (h2 : ev b = .agg o2.vals.toArray) (k1 : o1.Ok) (k2 : o2.Ok) : (execOp ev op).run Tryd.prog w = .ok (.value (.bool (decide (o1 = o2)))) w := by
  have hg : (eqGuard .eql 37 a b (.agg o1.vals.toArray) (.agg o2.vals.toArray)).run Tryd.prog w = .ok () w := by simp [eqGuard]
  unfold execOp
  simp only [ho, h1, h2, Sem.run_bind, run_eql_rf o1 o2 k1 k2 w, hg, Result.andThen_ok, Sem.run_pure]
set_option maxHeartbeats 1600000 in
theorem index_any (w : World) (T J : Nat) (sl : List Rf) (hs : TbAt w T J sl) : Calls Tryd.prog 42 #[.slice (some ⟨T, 1, none⟩) 12 12, .agg z37.toArray] w (FdPost w sl (fun o => decide (o = rf0))) := by
  have hb := box_alloc w 37 z37
  obtain ⟨w1, hw1⟩ : ∃ w1, w.alloc (.cells z37.toArray 37) = w1 := ⟨_, rfl⟩
  rw [hw1] at hb
  have HB := Lib.hid hb
  have HS := Lib.hid (hs.turn hb.turn id)
  clear hs hb
  go_enter Tryd.func42, Tryd.ntmps42
  go_wp2_with fail
  clear hw1
  go_loopw [8] (fun iv wr => ∃ k : Nat, k ≤ 12 ∧ iv = .int .i64 (k : Int) ∧ (∀ j, j < k → sl.getD j rf0 ≠ rf0) ∧ Turn (fun _ => False) w1 wr) (fun iv _ => 12 - (intOf iv).toNat)
  case atStart => exact ⟨0, Nat.zero_le _, rfl, fun j hj => by omega, Turn.refl _ _⟩
  case round =>
    obtain ⟨k, hk, rfl, hne, tr⟩ := hrel
    have HNE := Lib.hid hne
    have HT := Lib.hid (HB.out.turn.trans tr (fun _ _ => id))
    have HTR := Lib.hid tr
    clear hne tr
    by_cases hlt : k < 12
    · have hsr := HS.out.turn HTR.out id
      have hok := hsr.getok k hlt
      have hs1 := hsr.slot k hlt
      have HLN := Lib.hid hsr.len
      have hb1 : wr.rangeAt w.heap.size 0 z37 := fun j v hj => by rw [Nat.zero_add, (HTR.out.cell (p := ⟨w.heap.size, j, none⟩) (by rw [HB.out.size]; exact Nat.lt_succ_self _) id)]; exact HB.out.cell j v hj
      have hd1 : decide ((k : Int) < 12) = true := by simp; omega
      have gi : (0 : Int) ≤ (k : Int) ∧ (k : Int) < 12 := by omega
      clear hsr
      go_wp2_with fail
      refine wp_region_held_drew (S := fun wq => wq.rangeAt w.heap.size 0 z37 ∧ wq.rangeAt T (1 + k * 34) (sl.getD k rf0).vals) (by kernel_rfl) ⟨hb1, hs1⟩ (fun hHeld => ?_)
      refine wpAnyH_take (i := 0) (v := .agg z37.toArray) rfl (by kernel_rfl) (by kernel_rfl) (by kernel_rfl) (fun _ _ _ h => h) (Or.inl ⟨by rfl, ?yq1⟩) (by assumption) ?rq1
      case yq1 => (intro wq hSw; exact exec_load_mid _ _ 37 _ rfl w.heap.size 0 rfl z37 _ _ hSw.1 Tryd.underlying37 rfl info37)
      case rq1 =>
      try simp only [Act.put, List.setIfInBounds_toArray, List.set_cons_zero, List.set_cons_succ, List.getElem_toArray, List.getElem_cons_zero, List.getElem_cons_succ]
      refine wpAnyH_take (i := 1) (v := .slice (some ⟨T, 1, none⟩) 12 12) rfl (by kernel_rfl) (by kernel_rfl) (by kernel_rfl) (fun _ _ _ h => h) (Or.inl ⟨by rfl, ?yq2⟩) (by assumption) ?rq2
      case yq2 => (intro wq hSw; (try simp only [List.getElem_toArray, List.getElem_cons_zero, List.getElem_cons_succ]); go_simp; (try with_reducible rfl); all_goals (try omega))
      case rq2 =>
      try simp only [Act.put, List.setIfInBounds_toArray, List.set_cons_zero, List.set_cons_succ, List.getElem_toArray, List.getElem_cons_zero, List.getElem_cons_succ]
      refine wpAnyH_take (i := 2) (v := .int .i64 (k : Int)) rfl (by kernel_rfl) (by kernel_rfl) (by kernel_rfl) (fun _ _ _ h => h) (Or.inl ⟨by rfl, ?yq3⟩) (by assumption) ?rq3
      case yq3 => (intro wq hSw; (try simp only [List.getElem_toArray, List.getElem_cons_zero, List.getElem_cons_succ]); go_simp; (try with_reducible rfl); all_goals (try omega))
      case rq3 =>
      try simp only [Act.put, List.setIfInBounds_toArray, List.set_cons_zero, List.set_cons_succ, List.getElem_toArray, List.getElem_cons_zero, List.getElem_cons_succ]
      refine wpAnyH_take (i := 3) (v := .pointer (some ⟨T, 1 + k * 34, none⟩)) rfl (by kernel_rfl) (by kernel_rfl) (by kernel_rfl) (fun _ _ _ h => h) (Or.inl ⟨by rfl, ?yq4⟩) (by assumption) ?rq4
      case yq4 => (intro wq hSw; (try simp only [List.getElem_toArray, List.getElem_cons_zero, List.getElem_cons_succ]); go_simp; (try with_reducible rfl); all_goals (try omega))
      case rq4 =>
      try simp only [Act.put, List.setIfInBounds_toArray, List.set_cons_zero, List.set_cons_succ, List.getElem_toArray, List.getElem_cons_zero, List.getElem_cons_succ]
      refine wpAnyH_take (i := 4) (v := .agg (sl.getD k rf0).vals.toArray) rfl (by kernel_rfl) (by kernel_rfl) (by kernel_rfl) (fun _ _ _ h => h) (Or.inl ⟨by rfl, ?yq5⟩) (by assumption) ?rq5
      case yq5 => (intro wq hSw; exact exec_load_mid _ _ 37 _ rfl T (1 + k * 34) rfl (sl.getD k rf0).vals _ _ hSw.2 Tryd.underlying37 rfl (by rw [hok.vlen]; exact info37))
      case rq5 =>
      try simp only [Act.put, List.setIfInBounds_toArray, List.set_cons_zero, List.set_cons_succ, List.getElem_toArray, List.getElem_cons_zero, List.getElem_cons_succ]
      refine wpAnyH_take (i := 5) (v := .bool (decide (rf0 = sl.getD k rf0))) rfl (by kernel_rfl) (by kernel_rfl) (by kernel_rfl) (fun _ _ _ h => h) (Or.inl ⟨by rfl, ?yq6⟩) (by assumption) ?rq6
      case yq6 => (intro wq hSw; exact exec_eql_rf _ _ rfl _ _ wq rfl rfl rf0_ok hok)
      case rq6 =>
      try simp only [Act.put, List.setIfInBounds_toArray, List.set_cons_zero, List.set_cons_succ, List.getElem_toArray, List.getElem_cons_zero, List.getElem_cons_succ]
      refine wpAnyH_done (by kernel_rfl) ?_ _
      clear hHeld
      by_cases he : sl.getD k rf0 = rf0
      · rw [decide_eq_true he.symm]
        have HE := Lib.hid he
        clear he
        go_wp2_with fail
        go_ret
        exact ⟨HT.out.drew, .inl ⟨k, by rw [HLN.out]; exact hlt, decide_eq_true HE.out, fun j hj => decide_eq_false (HNE.out j hj), rfl⟩⟩
      · rw [decide_eq_false (fun h => he h.symm)]
        have HE := Lib.hid he
        clear he
        go_wp2_with fail
        go_roundw
        case rel => exact ⟨k + 1, by omega, by go_num, fun j hj => by
          by_cases e : j = k
          · subst e; exact HE.out
          · exact HNE.out j (by omega), HTR.out.drew⟩
        case measure => simp [intOf]; omega
    · obtain rfl : k = 12 := by omega
      go_wp2_with fail
      go_ret
      exact ⟨HT.out, .inr ⟨fun j hj => decide_eq_false (HNE.out j (by rw [← HS.out.len]; exact hj)), rfl⟩⟩
end Go.Proofs.YtnenkclihgeacaaDoor
/- Own contracts: a place of the table is laid. No statement is proved here. -/
namespace Go.Proofs.YtnenkclihgeacaaDoor
set_option maxRecDepth 100000
open Go.RowKit
set_option linter.unusedVariables false
set_option linter.unusedSimpArgs false

theorem src_lt {w : World} {v : Value} {xs : List Int} (h : Src w v xs) (h0 : 0 < xs.length) (k : Nat) (hk : v.ownBlock = some k) : k < w.heap.size := by
  rcases h with (⟨rfl, rfl⟩ | ⟨g, o, cap, rfl, _, hc⟩) | ⟨x, c, rfl, rfl⟩
  · simp at h0
  · have h1 : g = k := Option.some.inj hk
    subst h1
    exact World.block_lt_of_cell? _ _ (hc 0 h0)
  · simp at h0
theorem info37v {o : Rf} (h : o.Ok) : (Tryd.prog.info? 37).map (·.size) = some o.vals.toArray.size := by rw [info37]; simp [h.vlen]
def LayPost (w : World) (T J : Nat) (rs : List Rf) (i : Nat) (o : Rf) (G : Nat → Prop) (Q : Int → World → Prop) (e : Ending) (w' : World) : Prop := ∃ r wq, e = .returned (.int .i64 r) ∧ Q r wq ∧ Turn G w wq ∧ TbAt wq T J rs ∧ ((r = 0 ∧ w' = wq.drew.setCells T (1 + i * 34) o.vals) ∨ (r ≠ 0 ∧ w' = wq))
set_option maxHeartbeats 4000000 in
/-- A place is made a ref's, or free: the sector is written; if that went well, the table is turned. -/
theorem lay_core (w : World) (T J : Nat) (rs : List Rf) (i : Nat) (o : Rf) (v : Value) (xs : List Int) (G : Nat → Prop) (Q : Int → World → Prop) (ht : TbAt w T J rs) (hi : i < 12) (ho : o.Ok) (hv : Src w v xs) (hG : ∀ k, G k → k < w.heap.size ∧ k ≠ T)
    (hw : ∀ w2 pv (R : Nat → Prop), Turn (fun _ => False) w w2 → PagesIn w2 R pv [(((48 + i : Nat) : Int), xs)] → (∀ k, R k → k < w2.heap.size ∧ (w.heap.size ≤ k ∨ (0 < xs.length ∧ v.ownBlock = some k))) → Calls Tryd.prog 59 #[.pointer (some ⟨J, 0, none⟩), pv] w2 fun e w' => ∃ r : Int, e = .returned (.int .i64 r) ∧ Q r w' ∧ Turn G w2 w') :
    Calls Tryd.prog 32 #[.pointer (some ⟨T, 0, none⟩), .int .i64 (i : Int), .agg o.vals.toArray, v] w (LayPost w T J rs i o G Q) := by
  obtain ⟨va, vc, rfl, vq⟩ := src_any hv
  clear vq
  have hb := box_alloc w 37 o.vals
  obtain ⟨w1, hw1⟩ : ∃ w1, w.alloc (.cells o.vals.toArray 37) = w1 := ⟨_, rfl⟩
  rw [hw1] at hb
  have hwr : IntKind.i64.wrap (48 + (i : Int)) = 48 + (i : Int) := by rw [IntKind.wrap_i64]; omega
  have hcast : ((48 + i : Nat) : Int) = 48 + (i : Int) := by omega
  have hT1 := ht.turn hb.turn id
  have c0 := hT1.c0
  have hpg := pages_one w1 (fun k => k < w1.heap.size + 1 ∧ (w.heap.size ≤ k ∨ (0 < xs.length ∧ (Value.slice va xs.length vc).ownBlock = some k))) (48 + (i : Int)) (.slice va xs.length vc) xs (hv.turn hb.turn (fun _ _ => id)) (fun h0 k hk => ⟨by have := src_lt hv h0 k hk; rw [hb.size]; omega, .inr ⟨h0, hk⟩⟩) ⟨by omega, .inl (by rw [hb.size]; omega)⟩
  have t2 : Turn (fun _ => False) w (w1.alloc (.cells #[.int .i64 (48 + (i : Int)), .slice va xs.length vc] 107)) := hb.turn.alloc _
  have hsz : (w1.alloc (.cells #[.int .i64 (48 + (i : Int)), .slice va xs.length vc] 107)).heap.size = w1.heap.size + 1 := by simp
  rw [hcast] at hw
  have hcall := hw _ _ _ t2 hpg (fun k hk => ⟨by rw [hsz]; exact hk.1, hk.2⟩)
  have HC := Lib.hid hcall
  have HT := Lib.hid ht
  have HT2 := Lib.hid t2
  have HB := Lib.hid hb
  have HG := Lib.hid hG
  clear hcall hw hpg hsz hG hT1 t2 hv ht hb
  go_enter Tryd.func32, Tryd.ntmps32
  go_wp2_with fail
  refine HC.out.mono ?_
  rintro e w3 ⟨r, rfl, hQ, t3⟩
  have tw3 : Turn G w w3 := (HT2.out.mono (fun _ _ h => h.elim)).trans t3 (fun _ _ h => h)
  have HQ := Lib.hid hQ
  have HW3 := Lib.hid tw3
  have hr3 : w3.rangeAt w.heap.size 0 o.vals := rangeAt_turn (rangeAt_turn HB.out.range ((Turn.refl (fun _ => False) w1).alloc _) id) t3 (fun h => by have := (HG.out _ h).1; omega)
  have hT3 : TbAt w3 T J rs := HT.out.turn tw3 (fun h => (HG.out _ h).2 rfl)
  have HR3 := Lib.hid hr3
  have HT3 := Lib.hid hT3
  clear hQ tw3 t3 hr3 hT3 hw1 c0
  by_cases h0 : r = 0
  · subst h0
    have hth := HT3.out.there i hi
    have gi : (0 : Int) ≤ (i : Int) ∧ (i : Int) < 12 := by omega
    go_wp2_with fail
    refine wp_region_held_drew (S := fun wq => True ∧ wq.rangeAt w.heap.size 0 o.vals) (by kernel_rfl) ⟨trivial, HR3.out⟩ (fun hHeld => ?_)
    refine wpAnyH_take (i := 0) (v := .pointer (some ⟨T, 0, none⟩)) rfl (by kernel_rfl) (by kernel_rfl) (by kernel_rfl) (fun _ _ _ h => h) (Or.inl ⟨by rfl, ?yq1⟩) (by assumption) ?rq1
    case yq1 => (intro wq hSw; (try simp only [List.getElem_toArray, List.getElem_cons_zero, List.getElem_cons_succ]); go_simp; (try with_reducible rfl); all_goals (try omega))
    case rq1 =>
    try simp only [Act.put, List.setIfInBounds_toArray, List.set_cons_zero, List.set_cons_succ, List.getElem_toArray, List.getElem_cons_zero, List.getElem_cons_succ]
    refine wpAnyH_take (i := 1) (v := .int .i64 (i : Int)) rfl (by kernel_rfl) (by kernel_rfl) (by kernel_rfl) (fun _ _ _ h => h) (Or.inl ⟨by rfl, ?yq2⟩) (by assumption) ?rq2
    case yq2 => (intro wq hSw; (try simp only [List.getElem_toArray, List.getElem_cons_zero, List.getElem_cons_succ]); go_simp; (try with_reducible rfl); all_goals (try omega))
    case rq2 =>
    try simp only [Act.put, List.setIfInBounds_toArray, List.set_cons_zero, List.set_cons_succ, List.getElem_toArray, List.getElem_cons_zero, List.getElem_cons_succ]
    refine wpAnyH_take (i := 2) (v := .agg o.vals.toArray) rfl (by kernel_rfl) (by kernel_rfl) (by kernel_rfl) (fun _ _ _ h => h) (Or.inl ⟨by rfl, ?yq3⟩) (by assumption) ?rq3
    case yq3 => (intro wq hSw; exact exec_load_mid _ _ 37 _ rfl w.heap.size 0 rfl o.vals _ _ hSw.2 Tryd.underlying37 rfl (by rw [ho.vlen]; exact info37))
    case rq3 =>
    try simp only [Act.put, List.setIfInBounds_toArray, List.set_cons_zero, List.set_cons_succ, List.getElem_toArray, List.getElem_cons_zero, List.getElem_cons_succ]
    refine wpAnyH_take (i := 3) (v := .pointer (some ⟨T, 0, none⟩)) rfl (by kernel_rfl) (by kernel_rfl) (by kernel_rfl) (fun _ _ _ h => h) (Or.inl ⟨by rfl, ?yq4⟩) (by assumption) ?rq4
    case yq4 => (intro wq hSw; (try simp only [List.getElem_toArray, List.getElem_cons_zero, List.getElem_cons_succ]); go_simp; (try with_reducible rfl); all_goals (try omega))
    case rq4 =>
    try simp only [Act.put, List.setIfInBounds_toArray, List.set_cons_zero, List.set_cons_succ, List.getElem_toArray, List.getElem_cons_zero, List.getElem_cons_succ]
    refine wpAnyH_take (i := 4) (v := .pointer (some ⟨T, 1, none⟩)) rfl (by kernel_rfl) (by kernel_rfl) (by kernel_rfl) (fun _ _ _ h => h) (Or.inl ⟨by rfl, ?yq5⟩) (by assumption) ?rq5
    case yq5 => (intro wq hSw; (try simp only [List.getElem_toArray, List.getElem_cons_zero, List.getElem_cons_succ]); go_simp; (try with_reducible rfl); all_goals (try omega))
    case rq5 =>
    try simp only [Act.put, List.setIfInBounds_toArray, List.set_cons_zero, List.set_cons_succ, List.getElem_toArray, List.getElem_cons_zero, List.getElem_cons_succ]
    refine wpAnyH_take (i := 5) (v := .pointer (some ⟨T, 1 + i * 34, none⟩)) rfl (by kernel_rfl) (by kernel_rfl) (by kernel_rfl) (fun _ _ _ h => h) (Or.inl ⟨by rfl, ?yq6⟩) (by assumption) ?rq6
    case yq6 => (intro wq hSw; (try simp only [List.getElem_toArray, List.getElem_cons_zero, List.getElem_cons_succ]); go_simp; (try with_reducible rfl); all_goals (try omega))
    case rq6 =>
    try simp only [Act.put, List.setIfInBounds_toArray, List.set_cons_zero, List.set_cons_succ, List.getElem_toArray, List.getElem_cons_zero, List.getElem_cons_succ]
    refine wpAnyH_ready (rs := [6]) (by kernel_rfl) (by simp) ?_
    refine AllReadyH.cons rfl (fun K hK => ?_) AllReadyH.nil
    rw [if_pos (by rfl)]
    refine wp_store_mid 37 (.tmp 27) (.tmp 24) rfl T (1 + i * 34) o.vals.toArray rfl rfl (by simpa [ho.vlen] using hth) (info37v ho) (all_oneCell_toArray o.vals_one) ?_
    have hT4 : Turn (fun k => k = T) w3.drew (w3.drew.setCells T (1 + i * 34) o.vals.toArray.toList) := turn_setCells T _ _ _
    have hne : ¬ w.heap.size = T := by have := HT.out.lt; omega
    refine hK.out _ _ ⟨trivial, rangeAt_turn (w := w3.drew) HR3.out hT4 (fun e => hne e)⟩ (fun _ => ?_)
    clear hK K hT4
    try simp only [Act.put, List.setIfInBounds_toArray, List.set_cons_zero, List.set_cons_succ, List.getElem_toArray, List.getElem_cons_zero, List.getElem_cons_succ]
    refine wpAnyH_done (by kernel_rfl) ?_ _
    clear hHeld
    go_wp2_with fail
    go_ret
    exact ⟨0, w3, rfl, HQ.out, HW3.out, HT3.out, .inl ⟨rfl, rfl⟩⟩
  · have hd : (r == 0) = false := by simpa using h0
    go_wp2_with fail
    go_ret
    exact ⟨r, w3, rfl, HQ.out, HW3.out, HT3.out, .inr ⟨h0, rfl⟩⟩
end Go.Proofs.YtnenkclihgeacaaDoor
