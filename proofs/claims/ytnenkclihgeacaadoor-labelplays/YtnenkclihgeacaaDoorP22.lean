/- Own texts, packed: By, Bp. -/
import Derived.Test.YtnenkclihgeacaaDoorP18
import Derived.Test.YtnenkclihgeacaaDoorP21
import Derived.Test.YtnenkclihgeacaaDoorP16
import Derived.Lib.AppendStr
import Derived.Test.YtnenkclihgeacaaDoorP20
/- Own contracts: what stands on the disk. No statement is proved here. -/
namespace Go.Proofs.YtnenkclihgeacaaDoor
set_option maxRecDepth 100000
open Go.RowKit
set_option linter.unusedVariables false
set_option linter.unusedSimpArgs false

theorem list32 (l : List Int) (h : l.length = 32) : l = [l.getD 0 0, l.getD 1 0, l.getD 2 0, l.getD 3 0, l.getD 4 0, l.getD 5 0, l.getD 6 0, l.getD 7 0, l.getD 8 0, l.getD 9 0, l.getD 10 0, l.getD 11 0, l.getD 12 0, l.getD 13 0, l.getD 14 0, l.getD 15 0, l.getD 16 0, l.getD 17 0, l.getD 18 0, l.getD 19 0, l.getD 20 0, l.getD 21 0, l.getD 22 0, l.getD 23 0, l.getD 24 0, l.getD 25 0, l.getD 26 0, l.getD 27 0, l.getD 28 0, l.getD 29 0, l.getD 30 0, l.getD 31 0] := by
  apply List.ext_getElem (by simp [h])
  intro i h1 h2
  have hi : i < 32 := by omega
  rcases (by omega : i = 0 ∨ i = 1 ∨ i = 2 ∨ i = 3 ∨ i = 4 ∨ i = 5 ∨ i = 6 ∨ i = 7 ∨ i = 8 ∨ i = 9 ∨ i = 10 ∨ i = 11 ∨ i = 12 ∨ i = 13 ∨ i = 14 ∨ i = 15 ∨ i = 16 ∨ i = 17 ∨ i = 18 ∨ i = 19 ∨ i = 20 ∨ i = 21 ∨ i = 22 ∨ i = 23 ∨ i = 24 ∨ i = 25 ∨ i = 26 ∨ i = 27 ∨ i = 28 ∨ i = 29 ∨ i = 30 ∨ i = 31) with rfl | rfl | rfl | rfl | rfl | rfl | rfl | rfl | rfl | rfl | rfl | rfl | rfl | rfl | rfl | rfl | rfl | rfl | rfl | rfl | rfl | rfl | rfl | rfl | rfl | rfl | rfl | rfl | rfl | rfl | rfl | rfl <;> simp [List.getD, h1]
theorem build37k (s : ByteArray) (b : Bool) (x0 x1 x2 x3 x4 x5 x6 x7 x8 x9 x10 x11 x12 x13 x14 x15 x16 x17 x18 x19 x20 x21 x22 x23 x24 x25 x26 x27 x28 x29 x30 x31 : Int) (w : World) : (Instr.build 37 #[(0, .string s), (1, .agg (keyV [x0, x1, x2, x3, x4, x5, x6, x7, x8, x9, x10, x11, x12, x13, x14, x15, x16, x17, x18, x19, x20, x21, x22, x23, x24, x25, x26, x27, x28, x29, x30, x31]).toArray), (2, .bool b)]).run Tryd.prog w = .ok (.agg (Rf.vals ⟨s, [x0, x1, x2, x3, x4, x5, x6, x7, x8, x9, x10, x11, x12, x13, x14, x15, x16, x17, x18, x19, x20, x21, x22, x23, x24, x25, x26, x27, x28, x29, x30, x31], b⟩).toArray) w := by kernel_rfl
theorem build37a (s : ByteArray) (b : Bool) (l : List Int) (h : l.length = 32) (w : World) : (Instr.build 37 #[(0, .string s), (1, .agg (keyV l).toArray), (2, .bool b)]).run Tryd.prog w = .ok (.agg (Rf.vals ⟨s, l, b⟩).toArray) w := by
  rw [list32 l h]
  exact build37k s b _ _ _ _ _ _ _ _ _ _ _ _ _ _ _ _ _ _ _ _ _ _ _ _ _ _ _ _ _ _ _ _ w
theorem exec_build37a (ev : Operand → Value) (op : Oper) (x y z : Operand) (ho : op.op = .build 37 #[(0, x), (1, y), (2, z)]) (s : ByteArray) (b : Bool) (l : List Int) (h : l.length = 32) (hx : ev x = .string s) (hy : ev y = .agg (keyV l).toArray) (hz : ev z = .bool b) (w : World) : (execOp ev op).run Tryd.prog w = .ok (.value (.agg (Rf.vals ⟨s, l, b⟩).toArray)) w := by
  unfold execOp
  simp only [ho, List.map_toArray, List.map_cons, List.map_nil, hx, hy, hz, Sem.run_bind, Sem.run_pure, build37a s b l h, Result.andThen_ok]
theorem putM_one (C : List (List Int)) (k : Nat) (xs : List Int) (j : Nat) (hj : j < C.length) : (putM C [((k : Int), xs)]).getD j [] = if j = k then pad64 xs else C.getD j [] := by
  rw [putM_at C _ j hj]
  have e : (49 + (k : Int)).toNat = 49 + k := by omega
  simp only [layW, List.map_cons, List.map_nil, lastW, e, Option.none_or]
  by_cases h : j = k
  · subst h
    simp
  · rw [if_neg (by omega), if_neg h]
    rfl
theorem pad64_full (xs : List Int) (h : xs.length = 64) : pad64 xs = xs := by simp [pad64, h]
/-- append(p, make([]byte, M-len(p))...). -/
theorem app_zerosM (w w1 : World) (M : Nat) (hM : M ≤ 1000) (v1 : Value) (ps : List Int) (hl : ps.length ≤ M) (hp0 : 0 < ps.length) (ho : w1.ownsRow 0 5 1 v1 ps.length (secV ps)) (hn : ∀ q, v1.ownBlock = some q → w.heap.size ≤ q) (hT : Turn (fun _ => False) w w1) :
    ∃ v2 w2, (Builtin.append_ #[31, 3] 31 #[v1, .int .i64 ((M : Int) - (ps.length : Int))]).run Tryd.prog w1 = .ok v2 w2 ∧ w2.ownsRow 0 5 1 v2 M (secV (ps ++ List.replicate (M - ps.length) 0)) ∧ (∀ q, v2.ownBlock = some q → w.heap.size ≤ q) ∧ Turn (fun _ => False) w w2 := by
  obtain ⟨i0, hi0, h2, h3, hz⟩ := info5a
  have hu : Tryd.prog.underlying 31 = some (.slice 5) := Tryd.underlying31
  have hu3 : Tryd.prog.underlying 3 = some (.int .i64) := Tryd.underlying3
  obtain ⟨k, hk⟩ : ∃ k, M - ps.length = k := ⟨_, rfl⟩
  rw [show (M : Int) - (ps.length : Int) = (k : Int) by omega, hk]
  have hpad : secV (ps ++ List.replicate k 0) = secV ps ++ List.replicate k (.int .u8 0) := by
    unfold secV
    rw [List.map_append, List.map_replicate]
  have hsl : (secV ps).length = ps.length := secV_len ps
  have eM : ps.length + k = M := by omega
  have hlenM : (secV (ps ++ List.replicate k 0)).length = M * 1 := by rw [hpad]; simp [hsl]; omega
  rcases ho.2 with ⟨rfl, h0⟩ | ⟨g, cap, cur, rfl, _, hg, hnc, hcm, hcs, ht⟩
  · omega
  · have hcl : cur.toList.length = cap := by simpa using hcs
    have hgw := hn g rfl
    have ht' : cur.toList.take ps.length = secV ps := by simpa using ht
    by_cases h0 : k = 0
    · subst h0
      have hpM : ps.length = M := by omega
      refine ⟨_, w1, ?_, ⟨hlenM, .inr ⟨g, cap, cur, by rw [hpM], Nat.zero_le _, hg, by omega, hcm, hcs, by rw [hpad, Nat.mul_one, ← hpM, ht']; simp⟩⟩, hn, hT⟩
      have hroom : ps.length ≤ cap := hnc
      rw [hpM] at hroom ⊢
      simp [Builtin.append_, run_underlying hu, run_underlying hu3, sizeOf, typeInfo, hi0, h2, h3, asInt, asIntOf, hroom, storeCells, IntKind.wrap_i64]
    · have hkw : IntKind.i64.wrap (k : Int) = k := by rw [IntKind.wrap_i64]; omega
      by_cases hroom : ps.length + k ≤ cap
      · have hst := run_storeCells_at Tryd.prog g ps.length 5 (List.replicate k (.int .u8 0)) 0 cur w1 hg (by simp; omega) (by intro v hv; rw [List.eq_of_mem_replicate hv]; rfl)
        refine ⟨.slice (some ⟨g, 0, none⟩) M cap, w1.setRow g (cur.toList.take ps.length ++ List.replicate k (Value.int .u8 0) ++ cur.toList.drop (ps.length + k)).toArray, ?_, ⟨hlenM, .inr ⟨g, cap, _, rfl, Nat.zero_le _, setRow_heap w1 g _ _ 5 (0, 0) hg, by omega, hcm, ?_, ?_⟩⟩, fun q hq => by cases hq; exact hgw, ?_⟩
        · have n1 : ¬ ((k : Int) < 0) := by omega
          have n2 : ¬ (281474976710656 < (k : Int)) := by omega
          simp only [Nat.add_zero, List.length_replicate] at hst
          simp [Builtin.append_, run_underlying hu, run_underlying hu3, sizeOf, typeInfo, zeroValue, hi0, hz, h2, h3, asInt, asIntOf, hkw, h0, n1, n2, hroom, eM, show M ≤ cap by omega, Addr.add_lit, Value.cells, zeros_u8, hst]
        · simp; omega
        · simp only [Nat.mul_one]
          rw [List.take_append_of_le_length (by simp; omega), List.take_of_length_le (by simp; omega), ht', hpad]
        · exact ⟨hT.os, hT.tape, hT.output, Nat.le_trans hT.size (by simp), fun q hq hS => (setRow_other w1 g q _ (by rintro rfl; omega)).trans (hT.block q hq hS)⟩
      · have hold : (Builtin.firstCells i0.size ps.length (.slice (some ⟨g, 0, none⟩) ps.length cap)).run Tryd.prog w1.drew = .ok (secV ps).toArray w1.drew := by
          rw [h2]
          exact run_firstCells_some w1.drew 1 ps.length ⟨g, 0, none⟩ ps.length cap (secV ps) (by rw [hsl]; omega) (fun j u hj => by
            have := ho.cells (g := g) rfl j u hj
            exact this)
        have h := Lib.run_append_grow_zeros (P := Tryd.prog) w1 31 3 31 5 i0 _ .i64 .i64 hu hu3 hi0 hz (some ⟨g, 0, none⟩) ps.length cap (secV ps) hold k (by omega) (by omega) (by omega) (by omega) (by rw [h3]; omega) (by rw [h3]; exact growslice_fits (by omega) (by omega))
        rw [eM] at h
        have hge := grownCap_ge w1 M cap 5
        have hgm := grownCap_le_maxLen w1 M cap 5 (by simp only [maxLen]; omega)
        refine ⟨_, _, h, ⟨hlenM, .inr ⟨_, _, (secV ps ++ (Builtin.zeroCells (#[.int .u8 0] : Array Value) k).toList ++ (Builtin.zeroCells (#[.int .u8 0] : Array Value) (grownCap w1 M cap 5 - M)).toList).toArray, rfl, Nat.zero_le _, ?_, hge, hgm, ?_, ?_⟩⟩, fun q hq => by cases hq; exact hT.size, (hT.drew).alloc _⟩
        · show (w1.heap.push _)[w1.heap.size]? = _; simp [Value.cells]
        · rw [zeros_u8, zeros_u8]; simp [hsl]; omega
        · simp only [Nat.mul_one]
          rw [zeros_u8, List.take_append_of_le_length (by simp [hsl]; omega), List.take_of_length_le (by simp [hsl]; omega), hpad]
theorem exec_append2 {P : Program} (ev : Operand → Value) (op : Oper) (s x : Operand) (t tn : TypeId) (ho : op.op = .call { callee := .builtin .append, args := #[s, x], argTypes := #[t, tn] }) (v v2 v' : Value) (w w' : World) (hs : ev s = v) (hx : ev x = v2)
    (hrun : (Builtin.append_ #[t, tn] op.type #[v, v2]).run P w = .ok v' w') : (execOp ev op).run P w = .ok (.value v') w' := by
  unfold execOp
  simp only [ho, resolve, invoke, builtin, Sem.run_bind, Sem.run_pure, Result.andThen_ok, List.map_toArray, List.map_cons, List.map_nil, hs, hx, hrun]
theorem exec_conv31' (ev : Operand → Value) (op : Oper) (x : Operand) (ho : op.op = .convert 31 9 x) (v : Value) (s : ByteArray) (w : World) (hx : ev x = v) (h : (convert 31 9 v).run Tryd.prog w = .ok (.string s) w) : (execOp ev op).run Tryd.prog w = .ok (.value (.string s)) w := by
  unfold execOp
  simp only [ho, hx, Sem.run_bind, h, Result.andThen_ok, Sem.run_pure]
theorem strCells_nums (s : ByteArray) : Lib.strCells s = secV (numsB s) := by simp [Lib.strCells, secV, numsB]
theorem own_base {w : World} {b b' : Nat} {v : Value} {n : Nat} {xs : List Value} (h : w.ownsRow b 5 1 v n xs) (hb : b' ≤ b) : w.ownsRow b' 5 1 v n xs := by
  refine ⟨h.1, ?_⟩
  rcases h.2 with h1 | ⟨g, cap, cur, h1, h2, h3⟩
  · exact .inl h1
  · exact .inr ⟨g, cap, cur, h1, Nat.le_trans hb h2, h3⟩
theorem own_turn {w w' : World} {b : Nat} {v : Value} {n : Nat} {xs : List Value} (h : w.ownsRow b 5 1 v n xs) (t : Turn (fun _ => False) w w') : w'.ownsRow b 5 1 v n xs := by
  refine ⟨h.1, ?_⟩
  rcases h.2 with h1 | ⟨g, cap, cur, h1, h2, h3, h4⟩
  · exact .inl h1
  · exact .inr ⟨g, cap, cur, h1, h2, (t.block g (Array.getElem?_eq_some_iff.1 h3).1 id).trans h3, h4⟩
theorem own_drew {w : World} {b : Nat} {v : Value} {n : Nat} {xs : List Value} (h : w.ownsRow b 5 1 v n xs) : w.drew.ownsRow b 5 1 v n xs := own_turn h (Turn.refl (fun _ => False) w).drew
/-- append(append(p, name...), make([]byte, 12-len(name))...). -/
theorem app_all (w4 w6 : World) (s : ByteArray) (hsz : s.size ≤ 12) (f : Int) (ho : w6.ownsRow w4.heap.size 5 1 (.slice (some ⟨w4.heap.size, 0, none⟩) 3 3) 3 (secV [1, f, (s.size : Int)])) (t6 : Turn (fun _ => False) w4 w6) :
    ∃ v8 w8 v7 w7, (Builtin.append_ #[31, 9] 31 #[.slice (some ⟨w4.heap.size, 0, none⟩) 3 3, .string s]).run Tryd.prog w6 = .ok v7 w7 ∧ (Builtin.append_ #[31, 3] 31 #[v7, .int .i64 (12 - (s.size : Int))]).run Tryd.prog w7 = .ok v8 w8 ∧ w8.ownsRow 0 5 1 v8 15 (secV ([1, f, (s.size : Int)] ++ numsB s ++ List.replicate (12 - s.size) 0)) ∧ (∀ q, v8.ownBlock = some q → w4.heap.size ≤ q) ∧ Turn (fun _ => False) w4 w8 := by
  obtain ⟨i0, hi0, h2, h3, hz⟩ := info5a
  obtain ⟨v7, w7, hr7, ho7, hg7, _⟩ := Lib.run_append_own_string (P := Tryd.prog) w6 w4.heap.size 31 9 31 5 i0 Tryd.underlying31 Tryd.underlying9 hi0 hz h2 h3 _ 3 _ ho s (by unfold maxLen; omega) (by omega) t6.size
  have t7 : Turn (fun _ => False) w4 w7 := t6.grown hg7 (fun k h hk => by simp [Value.ownBlock] at h; omega)
  have hl : ([1, f, (s.size : Int)] ++ numsB s).length = 3 + s.size := by simp [numsB_len]; omega
  have ho7' : w7.ownsRow w4.heap.size 5 1 v7 ([1, f, (s.size : Int)] ++ numsB s).length (secV ([1, f, (s.size : Int)] ++ numsB s)) := by
    rw [hl, show secV ([1, f, (s.size : Int)] ++ numsB s) = secV [1, f, (s.size : Int)] ++ Lib.strCells s by rw [strCells_nums]; simp [secV]]
    exact ho7
  obtain ⟨v8, w8, hr8, ho8, hn8, t8⟩ := app_zerosM w4 w7 15 (by omega) v7 _ (by rw [hl]; omega) (by rw [hl]; omega) (own_base ho7' (Nat.zero_le _)) (fun q hq => (ho7'.lt q hq).1) t7
  rw [hl] at hr8 ho8
  refine ⟨v8, w8, v7, w7, hr7, ?_, ?_, hn8, t8⟩
  · rw [← hr8, show ((15 : Nat) : Int) - ((3 + s.size : Nat) : Int) = 12 - (s.size : Int) by omega]
  · rw [show 15 - (3 + s.size) = 12 - s.size by omega] at ho8; exact ho8

set_option maxHeartbeats 8000000 in
theorem lbytes_walk (s : ByteArray) (ks : List Int) (hkl : ks.length = 32) (hkb : BytesOk ks) (fa : Bool) (W : World) (tab : Tab W) (hs : s.size ≤ 9223372036854775807) : Calls Tryd.prog 8 #[.string s, .agg (keyV ks).toArray, .bool fa] W fun e w' => e = .returned (.bool true) ∧ Turn (fun _ => False) W w' := by
  have h2 : 2 ≤ W.heap.size := tab.1
  have hb := box_alloc W 30 (keyV ks)
  obtain ⟨w0, hw0⟩ : ∃ w0, W.alloc (.cells (keyV ks).toArray 30) = w0 := ⟨_, rfl⟩
  rw [hw0] at hb
  have HB0 := Lib.hid hb
  have HTAB := Lib.hid tab
  clear hb tab
  go_enter Tryd.func8, Tryd.ntmps8
  go_wp2_with fail
  refine (lawake_any w0 (HTAB.out.turn HB0.out.turn)).mono ?_
  rintro e w1 ⟨rfl, t1⟩
  have HT1 := Lib.hid (HB0.out.turn.trans t1 (fun _ _ => id))
  have HK1 := Lib.hid (show w1.rangeAt W.heap.size 0 (keyV ks) from rangeAt_turn HB0.out.range t1 id)
  have HZ1 := Lib.hid (show W.heap.size < w1.heap.size by have := t1.size; have := HB0.out.size; omega)
  clear t1 hw0
  go_wp2_with fail
  refine (lright_any s w1 hs).mono ?_
  rintro e w2 ⟨rfl, rfl⟩
  cases hr : rightB s
  · clear hr
    go_wp2_with fail
    refine (lawake_any w2 (HTAB.out.turn HT1.out)).mono ?_
    rintro e w3 ⟨rfl, t3⟩
    have HT3 := Lib.hid (HT1.out.trans t3 (fun _ _ => id))
    clear t3
    go_wp2_with fail
    go_ret
    exact ⟨rfl, HT3.out⟩
  · have HR := Lib.hid hr
    have hsz := (right_size hr).2
    clear hr
    go_wp2_with fail
    refine (fresh_any w2 600 (HTAB.out.turn HT1.out) (by omega)).mono ?_
    rintro e w3 ⟨D, T, J, F, d, L, rfl, hlb, ha, hL, t3⟩
    have HLB := Lib.hid hlb
    have HT3 := Lib.hid (HT1.out.trans t3 (fun _ _ => id))
    have HK3 := Lib.hid (show w3.rangeAt W.heap.size 0 (keyV ks) from rangeAt_turn HK1.out t3 id)
    clear hlb t3 hL
    go_wp2_with (with_reducible (show wpList _ _ _ (Oper.mk (some 31) (.load 30 (.tmp 4)) _ _ _ _ :: _) _ _); refine still ?_)
    refine wpList_load_mid rfl 30 (.tmp 4) rfl W.heap.size 0 rfl (keyV ks) _ HK3.out Tryd.underlying30 rfl (by simp [keyV, hkl, info30]) ?_
    go_wp2_with (with_reducible (show wpList _ _ _ (Oper.mk (some 33) (.build 37 _) _ _ _ _ :: _) _ _); refine still ?_)
    refine list_exec rfl _ _ (exec_build37a _ _ _ _ _ rfl s fa ks hkl rfl rfl rfl _) ?_
    go_wp2_with fail
    have hoK : (⟨s, ks, fa⟩ : Rf).Ok := ⟨hkl, hkb⟩
    refine (make_any w3 w2.heap.size F T J D d L blankC 400 bl ⟨s, ks, fa⟩ HLB.out hoK).mono ?_
    intro e w4 hmk
    rcases hmk with ⟨h1, _⟩ | ⟨_, h1, _⟩ | ⟨_, _, h1, _⟩ | ⟨_, _, i, h1, hi12, hly⟩
    · have h9 : rightB s = false := h1
      rw [HR.out] at h9; cases h9
    · exact absurd (bl_name s (right_ne HR.out)) h1
    · rw [bl_free] at h1; cases h1
    rw [bl_free] at h1
    cases h1
    obtain ⟨rfl, F4, d4, L4, hlb4, ha4, hs4⟩ := hly.ok ha
    have hnM : ∀ k, k < w2.heap.size → ¬ Mn F J T k := fun k hk hm => by have := HLB.out.bM k hm; omega
    have HLB4 := Lib.hid hlb4
    have HT4 := Lib.hid (show Turn (fun _ => False) W w4 from HT3.out.trans hs4.turn (fun k hk e => hnM k (by have := HT1.out.size; omega) e))
    have HK4 := Lib.hid (show w4.rangeAt W.heap.size 0 (keyV ks) from rangeAt_turn HK3.out hs4.turn (hnM _ HZ1.out))
    clear hlb4 hs4 hly hnM
    have hwr : IntKind.u8.wrap (s.size : Int) = (s.size : Int) := by rw [IntKind.wrap_u8]; omega
    have hbp := box_alloc w4 5 [.int .u8 1, .int .u8 0, .int .u8 (s.size : Int)]
    obtain ⟨w5, hw5⟩ : ∃ w5, w4.alloc (.cells #[.int .u8 1, .int .u8 0, .int .u8 (s.size : Int)] 5) = w5 := ⟨_, rfl⟩
    rw [show w4.alloc (.cells [Value.int .u8 1, .int .u8 0, .int .u8 (s.size : Int)].toArray 5) = w5 from hw5] at hbp
    have p1 := hbp.cell 1 _ rfl
    have f1 := hbp.free 1
    have HBP := Lib.hid hbp
    have hs12 : IntKind.i64.wrap (12 - (s.size : Int)) = 12 - (s.size : Int) := by rw [IntKind.wrap_i64]; omega
    clear hbp
    cases fa
    · have ho : w5.ownsRow w4.heap.size 5 1 (.slice (some ⟨w4.heap.size, 0, none⟩) 3 3) 3 (secV [1, 0, (s.size : Int)]) := ⟨rfl, .inr ⟨w4.heap.size, 3, _, rfl, Nat.le_refl _, HBP.out.heap, Nat.le_refl _, by unfold maxLen; omega, rfl, rfl⟩⟩
      have t6 : Turn (fun _ => False) w4 w5 := HBP.out.turn
      obtain ⟨w6, hw6⟩ : ∃ w6, w5 = w6 := ⟨_, rfl⟩
      rw [hw6] at ho t6
      obtain ⟨v8, w8, v7, w7, hr7, hr8, ho8, hn8, t8⟩ := app_all w4 w6 s hsz 0 ho t6
      have HO8 := Lib.hid ho8
      have HN8 := Lib.hid hn8
      have HT8 := Lib.hid (HT4.out.trans t8 (fun _ _ => id))
      have HT48 := Lib.hid t8
      have HK8 := Lib.hid (show w8.rangeAt W.heap.size 0 (keyV ks) from rangeAt_turn HK4.out t8 id)
      have hlb8 := HLB4.out.turn0 t8
      have hC48 := hlb8.jc.told 48 (by have := hlb8.len.1; omega)
      have hrd := read_dh w8 F4 D d4 97 hlb8.jc.jh.dh hlb8.jc.room.fits (by have := hlb8.jc.calm.calm.len; have := hlb8.len.1; omega) hlb8.jc.calm.off
      rw [show (97 : Nat) = 49 + 48 from rfl, hC48.1, putM_one blankC 48 _ 48 (by simp [blankC]), if_pos rfl, pad64_full _ (sealB_len _)] at hrd
      have HRD := Lib.hid (show Calls Tryd.prog 25 #[.pointer (some ⟨D, 0, none⟩), .int .i64 97] w8 (ReadDH w8 F4 D d4 (sealB (refB ⟨s, ks, false⟩))) from hrd)
      have hok := refB_ok hoK hsz
      have hcat : [1, 0, (s.size : Int)] ++ numsB s ++ List.replicate (12 - s.size) 0 ++ ks = refB ⟨s, ks, false⟩ := rfl
      clear ho t6 hrd hlb8 hC48 ho8 hn8 t8
      generalize refB ⟨s, ks, false⟩ = rb at *
      have HCAT := Lib.hid hcat
      have HOKB := Lib.hid hok
      clear hcat hok
      have HR7 := Lib.hid hr7
      have HR8 := Lib.hid hr8
      clear hr7 hr8
      go_wp2_with (with_reducible (show wpList _ _ _ (Oper.mk (some 44) (.call _) _ _ _ _ :: _) _ _); refine still ?_)
      refine list_exec rfl v7 w7 (exec_append2 _ _ (.tmp 42) (.tmp 43) 31 9 rfl _ _ _ _ _ rfl rfl HR7.out) ?_
      go_wp2_with (with_reducible (show wpList _ _ _ (Oper.mk (some 48) (.call _) _ _ _ _ :: _) _ _); refine still ?_)
      refine list_exec rfl v8 w8 (exec_append2 _ _ (.tmp 44) (.tmp 47) 31 3 rfl _ _ _ _ _ rfl rfl HR8.out) ?_
      go_wp2_with fail
      clear p1 f1
      refine HRD.out.mono ?_
      rintro e w9 ⟨Bx, rfl, hBx, hrx, hthx, _, t9⟩
      have hrx64 : ∀ i, i < 64 → w9.cell? ⟨Bx, i, none⟩ = some (.int .u8 ((sealB rb).getD i 0)) := fun i hi => by
        have := hrx i (.int .u8 ((sealB rb).getD i 0)) (by
          unfold secV
          rw [List.getElem?_map]
          have hl := sealB_len rb
          simp only [List.getD_eq_getElem?_getD]
          rw [List.getElem?_eq_getElem (by omega)]
          simp)
        rwa [Nat.zero_add] at this
      have HRX := Lib.hid hrx64
      have HT9 := Lib.hid (HT8.out.trans t9 (fun _ _ => id))
      have HK9 := Lib.hid (show w9.rangeAt W.heap.size 0 (keyV ks) from rangeAt_turn HK8.out t9 id)
      have HO9 := Lib.hid (own_turn HO8.out t9)
      have HL8 := Lib.hid (fun q hq => (HO8.out.lt q hq).2)
      clear hrx hthx t9 hrx64
      have hsrcK : Src w9.drew (.slice (some ⟨W.heap.size, 0, none⟩) 32 32) ks := .inl (.inr ⟨W.heap.size, 0, 32, by rw [hkl], by rw [hkl]; omega, fun i hi => HK9.out i _ (by
        unfold keyV
        rw [List.getElem?_map]
        simp only [List.getD_eq_getElem?_getD]
        rw [List.getElem?_eq_getElem hi]
        simp)⟩)
      obtain ⟨v10, w10, hr10, ho10, t10, _⟩ := run_append_src w9.drew 0 v8 (.slice (some ⟨W.heap.size, 0, none⟩) 32 32) 15 _ ks (own_drew HO9.out) hsrcK (Nat.zero_le _) (by rw [hkl]; omega)
      have HT10 := Lib.hid (show Turn (fun q => v8.ownBlock = some q) w9 w10 from (Turn.refl (fun q => v8.ownBlock = some q) w9).drew.trans t10 (fun _ _ h => h))
      have hx10 : ∀ i, i < 64 → w10.cell? ⟨Bx, i, none⟩ = some (.int .u8 ((sealB rb).getD i 0)) := fun i hi => (HT10.out.cell (p := ⟨Bx, i, none⟩) (World.block_lt_of_cell? _ _ (HRX.out i hi)) (fun hq => by have h9 : Bx < w8.heap.size := HL8.out _ hq; omega)).trans (HRX.out i hi)
      have HX10 := Lib.hid hx10
      have hsr10 : Src w10 v10 rb := by
        have e9 := Reads.of_owns (xs := ([1, 0, (s.size : Int)] ++ numsB s ++ List.replicate (12 - s.size) 0) ++ ks) (by
          have hl9 : (([1, 0, (s.size : Int)] ++ numsB s ++ List.replicate (12 - s.size) 0) ++ ks).length = 15 + ks.length := by simp [numsB_len]; omega
          rw [hl9]; exact ho10)
        rw [← HCAT.out]
        exact .inl e9
      have HSR := Lib.hid hsr10
      have HTW10 := Lib.hid (show Turn (fun _ => False) W w10 from HT9.out.trans HT10.out (fun q hq e => by have := HN8.out q e; have := HT4.out.size; omega))
      clear hsr10 t10 ho10 hsrcK hx10
      go_wp2_with fail
      refine wp_region_held_drew (S := fun wq => (∀ i, i < 64 → wq.cell? ⟨Bx, i, none⟩ = some (.int .u8 ((sealB rb).getD i 0))) ∧ True) (by kernel_rfl) ⟨HRX.out, trivial⟩ (fun hHeld => ?_)
      refine wpAnyH_take (i := 0) (v := .int .i64 0) rfl (by kernel_rfl) (by kernel_rfl) (by kernel_rfl) (fun _ _ _ h => h) (Or.inl ⟨by rfl, ?yq1⟩) (by assumption) ?rq1
      case yq1 => (intro wq hSw; (try simp only [List.getElem_toArray, List.getElem_cons_zero, List.getElem_cons_succ]); go_simp; (try with_reducible rfl); all_goals (try omega))
      case rq1 =>
      try simp only [Act.put, List.setIfInBounds_toArray, List.set_cons_zero, List.set_cons_succ, List.getElem_toArray, List.getElem_cons_zero, List.getElem_cons_succ]
      refine wpAnyH_take (i := 1) (v := .bool true) rfl (by kernel_rfl) (by kernel_rfl) (by kernel_rfl) (fun _ _ _ h => h) (Or.inl ⟨by rfl, ?yq2⟩) (by assumption) ?rq2
      case yq2 => (intro wq hSw; (try simp only [List.getElem_toArray, List.getElem_cons_zero, List.getElem_cons_succ]); go_simp; (try with_reducible rfl); all_goals (try omega))
      case rq2 =>
      try simp only [Act.put, List.setIfInBounds_toArray, List.set_cons_zero, List.set_cons_succ, List.getElem_toArray, List.getElem_cons_zero, List.getElem_cons_succ]
      refine wpAnyH_take (i := 2) (v := .bool true) rfl (by kernel_rfl) (by kernel_rfl) (by kernel_rfl) (fun _ _ _ h => h) (Or.inl ⟨by rfl, ?yq3⟩) (by assumption) ?rq3
      case yq3 => (intro wq hSw; (try simp only [List.getElem_toArray, List.getElem_cons_zero, List.getElem_cons_succ]); go_simp; (try with_reducible rfl); all_goals (try omega))
      case rq3 =>
      try simp only [Act.put, List.setIfInBounds_toArray, List.set_cons_zero, List.set_cons_succ, List.getElem_toArray, List.getElem_cons_zero, List.getElem_cons_succ]
      refine wpAnyH_take (i := 3) (v := .int .i64 0) rfl (by kernel_rfl) (by kernel_rfl) (by kernel_rfl) (fun _ _ _ h => h) (Or.inl ⟨by rfl, ?yq4⟩) (by assumption) ?rq4
      case yq4 => (intro wq hSw; (try simp only [List.getElem_toArray, List.getElem_cons_zero, List.getElem_cons_succ]); go_simp; (try with_reducible rfl); all_goals (try omega))
      case rq4 =>
      try simp only [Act.put, List.setIfInBounds_toArray, List.set_cons_zero, List.set_cons_succ, List.getElem_toArray, List.getElem_cons_zero, List.getElem_cons_succ]
      refine wpAnyH_take (i := 4) (v := .bool true) rfl (by kernel_rfl) (by kernel_rfl) (by kernel_rfl) (fun _ _ _ h => h) (Or.inl ⟨by rfl, ?yq5⟩) (by assumption) ?rq5
      case yq5 => (intro wq hSw; (try simp only [List.getElem_toArray, List.getElem_cons_zero, List.getElem_cons_succ]); go_simp; (try with_reducible rfl); all_goals (try omega))
      case rq5 =>
      try simp only [Act.put, List.setIfInBounds_toArray, List.set_cons_zero, List.set_cons_succ, List.getElem_toArray, List.getElem_cons_zero, List.getElem_cons_succ]
      refine wpAnyH_take (i := 5) (v := .bool true) rfl (by kernel_rfl) (by kernel_rfl) (by kernel_rfl) (fun _ _ _ h => h) (Or.inl ⟨by rfl, ?yq6⟩) (by assumption) ?rq6
      case yq6 => (intro wq hSw; (try simp only [List.getElem_toArray, List.getElem_cons_zero, List.getElem_cons_succ]); go_simp; (try with_reducible rfl); all_goals (try omega))
      case rq6 =>
      try simp only [Act.put, List.setIfInBounds_toArray, List.set_cons_zero, List.set_cons_succ, List.getElem_toArray, List.getElem_cons_zero, List.getElem_cons_succ]
      refine wpAnyH_take (i := 6) (v := .bool true) rfl (by kernel_rfl) (by kernel_rfl) (by kernel_rfl) (fun _ _ _ h => h) (Or.inl ⟨by rfl, ?yq7⟩) (by assumption) ?rq7
      case yq7 => (intro wq hSw; (try simp only [List.getElem_toArray, List.getElem_cons_zero, List.getElem_cons_succ]); go_simp; (try with_reducible rfl); all_goals (try omega))
      case rq7 =>
      try simp only [Act.put, List.setIfInBounds_toArray, List.set_cons_zero, List.set_cons_succ, List.getElem_toArray, List.getElem_cons_zero, List.getElem_cons_succ]
      refine wpAnyH_take (i := 7) (v := .slice (some ⟨Bx, 0, none⟩) 64 64) rfl (by kernel_rfl) (by kernel_rfl) (by kernel_rfl) (fun _ _ _ h => h) (Or.inl ⟨by rfl, ?yq8⟩) (by assumption) ?rq8
      case yq8 => (intro wq hSw; (try simp only [List.getElem_toArray, List.getElem_cons_zero, List.getElem_cons_succ]); go_simp; (try with_reducible rfl); all_goals (try omega))
      case rq8 =>
      try simp only [Act.put, List.setIfInBounds_toArray, List.set_cons_zero, List.set_cons_succ, List.getElem_toArray, List.getElem_cons_zero, List.getElem_cons_succ]
      refine wpAnyH_take (i := 8) (v := .string (strOfNums (sealB rb))) rfl (by kernel_rfl) (by kernel_rfl) (by kernel_rfl) (fun _ _ _ h => h) (Or.inl ⟨by rfl, ?yq9⟩) (by assumption) ?rq9
      case yq9 => (intro wq hSw; exact exec_conv31 _ _ _ rfl (.slice (some ⟨Bx, 0, none⟩) 64 64) _ wq rfl (.inr ⟨Bx, 0, 64, by rw [sealB_len], by rw [sealB_len]; omega, fun i hi => by rw [Nat.zero_add]; exact hSw.1 i (by rw [sealB_len] at hi; exact hi)⟩))
      case rq9 =>
      try simp only [Act.put, List.setIfInBounds_toArray, List.set_cons_zero, List.set_cons_succ, List.getElem_toArray, List.getElem_cons_zero, List.getElem_cons_succ]
      refine wpAnyH_take (i := 9) (v := v8) rfl (by kernel_rfl) (by kernel_rfl) (by kernel_rfl) (fun _ _ _ h => h) (Or.inl ⟨by rfl, ?yq10⟩) (by assumption) ?rq10
      case yq10 => (intro wq hSw; (try simp only [List.getElem_toArray, List.getElem_cons_zero, List.getElem_cons_succ]); go_simp; (try with_reducible rfl); all_goals (try omega))
      case rq10 =>
      try simp only [Act.put, List.setIfInBounds_toArray, List.set_cons_zero, List.set_cons_succ, List.getElem_toArray, List.getElem_cons_zero, List.getElem_cons_succ]
      refine wpAnyH_take (i := 10) (v := .slice (some ⟨W.heap.size, 0, none⟩) 32 32) rfl (by kernel_rfl) (by kernel_rfl) (by kernel_rfl) (fun _ _ _ h => h) (Or.inl ⟨by rfl, ?yq11⟩) (by assumption) ?rq11
      case yq11 => (intro wq hSw; (try simp only [List.getElem_toArray, List.getElem_cons_zero, List.getElem_cons_succ]); go_simp; (try with_reducible rfl); all_goals (try omega))
      case rq11 =>
      try simp only [Act.put, List.setIfInBounds_toArray, List.set_cons_zero, List.set_cons_succ, List.getElem_toArray, List.getElem_cons_zero, List.getElem_cons_succ]
      refine wpAnyH_ready (rs := [11]) (by kernel_rfl) (by simp) ?_
      refine AllReadyH.cons rfl (fun K hK => ?_) AllReadyH.nil
      rw [if_pos (by rfl)]
      refine wp_exec (exec_append2 _ _ (.tmp 63) (.tmp 64) 31 31 rfl _ _ _ _ _ rfl rfl hr10) ?_
      refine hK.out _ _ ⟨HX10.out, trivial⟩ (fun _ => ?_)
      clear hK K hr10
      try simp only [Act.put, List.setIfInBounds_toArray, List.set_cons_zero, List.set_cons_succ, List.getElem_toArray, List.getElem_cons_zero, List.getElem_cons_succ]
      refine wpAnyH_ready (rs := [12]) (by kernel_rfl) (by simp) ?_
      refine AllReadyH.cons rfl (fun K hK => ?_) AllReadyH.nil
      go_simp
      refine (refseal_any v10 rb w10 HSR.out HOKB.out).mono ?_
      rintro e w11 ⟨v11, rfl, hrd11, t11⟩
      have HTW11 := Lib.hid (HTW10.out.trans t11 (fun _ _ => id))
      have hcv11 := hrd11.conv
      have hx11 : ∀ i, i < 64 → w11.cell? ⟨Bx, i, none⟩ = some (.int .u8 ((sealB rb).getD i 0)) := fun i hi => (t11.cell (p := ⟨Bx, i, none⟩) (World.block_lt_of_cell? _ _ (HX10.out i hi)) id).trans (HX10.out i hi)
      have HX11 := Lib.hid hx11
      refine hK.out _ _ ⟨hx11, trivial⟩ (fun _ => ?_)
      clear hK K hx11 t11 hrd11
      try simp only [Act.put, List.setIfInBounds_toArray, List.set_cons_zero, List.set_cons_succ, List.getElem_toArray, List.getElem_cons_zero, List.getElem_cons_succ]
      refine wpAnyH_ready (rs := [13]) (by kernel_rfl) (by simp) ?_
      refine AllReadyH.cons rfl (fun K hK => ?_) AllReadyH.nil
      rw [if_pos (by rfl)]
      refine wp_exec (exec_conv31' _ _ (.tmp 66) rfl _ _ w11 rfl hcv11) ?_
      refine hK.out _ _ ⟨HX11.out, trivial⟩ (fun _ => ?_)
      clear hK K hcv11
      try simp only [Act.put, List.setIfInBounds_toArray, List.set_cons_zero, List.set_cons_succ, List.getElem_toArray, List.getElem_cons_zero, List.getElem_cons_succ]
      refine wpAnyH_take (i := 14) (v := .bool true) rfl (by kernel_rfl) (by kernel_rfl) (by kernel_rfl) (fun _ _ _ h => h) (Or.inl ⟨by rfl, ?yq12⟩) (by assumption) ?rq12
      case yq12 => (intro wq hSw; (try simp only [List.getElem_toArray, List.getElem_cons_zero, List.getElem_cons_succ]); go_simp; (try with_reducible rfl); all_goals (try omega))
      case rq12 =>
      try simp only [Act.put, List.setIfInBounds_toArray, List.set_cons_zero, List.set_cons_succ, List.getElem_toArray, List.getElem_cons_zero, List.getElem_cons_succ]
      refine wpAnyH_take (i := 15) (v := .bool true) rfl (by kernel_rfl) (by kernel_rfl) (by kernel_rfl) (fun _ _ _ h => h) (Or.inl ⟨by rfl, ?yq13⟩) (by assumption) ?rq13
      case yq13 => (intro wq hSw; (try simp only [List.getElem_toArray, List.getElem_cons_zero, List.getElem_cons_succ]); go_simp; (try with_reducible rfl); all_goals (try omega))
      case rq13 =>
      try simp only [Act.put, List.setIfInBounds_toArray, List.set_cons_zero, List.set_cons_succ, List.getElem_toArray, List.getElem_cons_zero, List.getElem_cons_succ]
      refine wpAnyH_take (i := 16) (v := .bool true) rfl (by kernel_rfl) (by kernel_rfl) (by kernel_rfl) (fun _ _ _ h => h) (Or.inl ⟨by rfl, ?yq14⟩) (by assumption) ?rq14
      case yq14 => (intro wq hSw; (try simp only [List.getElem_toArray, List.getElem_cons_zero, List.getElem_cons_succ]); go_simp; (try with_reducible rfl); all_goals (try omega))
      case rq14 =>
      try simp only [Act.put, List.setIfInBounds_toArray, List.set_cons_zero, List.set_cons_succ, List.getElem_toArray, List.getElem_cons_zero, List.getElem_cons_succ]
      refine wpAnyH_done (by kernel_rfl) ?_ _
      clear hHeld
      go_wp2_with fail
      go_ret
      exact ⟨rfl, HTW11.out⟩
    · have ho : (w5.setCell ⟨w4.heap.size, 1, none⟩ (.int .u8 1)).ownsRow w4.heap.size 5 1 (.slice (some ⟨w4.heap.size, 0, none⟩) 3 3) 3 (secV [1, 1, (s.size : Int)]) := ⟨rfl, .inr ⟨w4.heap.size, 3, _, rfl, Nat.le_refl _, heap_setCell_same w5 w4.heap.size 1 _ 5 _ HBP.out.heap, Nat.le_refl _, by unfold maxLen; omega, rfl, rfl⟩⟩
      have t6 : Turn (fun _ => False) w4 (w5.setCell ⟨w4.heap.size, 1, none⟩ (.int .u8 1)) := HBP.out.turn.setCell (fun h => absurd h (Nat.lt_irrefl _)) _
      obtain ⟨w6, hw6⟩ : ∃ w6, (w5.setCell ⟨w4.heap.size, 1, none⟩ (.int .u8 1)) = w6 := ⟨_, rfl⟩
      rw [hw6] at ho t6
      obtain ⟨v8, w8, v7, w7, hr7, hr8, ho8, hn8, t8⟩ := app_all w4 w6 s hsz 1 ho t6
      have HO8 := Lib.hid ho8
      have HN8 := Lib.hid hn8
      have HT8 := Lib.hid (HT4.out.trans t8 (fun _ _ => id))
      have HT48 := Lib.hid t8
      have HK8 := Lib.hid (show w8.rangeAt W.heap.size 0 (keyV ks) from rangeAt_turn HK4.out t8 id)
      have hlb8 := HLB4.out.turn0 t8
      have hC48 := hlb8.jc.told 48 (by have := hlb8.len.1; omega)
      have hrd := read_dh w8 F4 D d4 97 hlb8.jc.jh.dh hlb8.jc.room.fits (by have := hlb8.jc.calm.calm.len; have := hlb8.len.1; omega) hlb8.jc.calm.off
      rw [show (97 : Nat) = 49 + 48 from rfl, hC48.1, putM_one blankC 48 _ 48 (by simp [blankC]), if_pos rfl, pad64_full _ (sealB_len _)] at hrd
      have HRD := Lib.hid (show Calls Tryd.prog 25 #[.pointer (some ⟨D, 0, none⟩), .int .i64 97] w8 (ReadDH w8 F4 D d4 (sealB (refB ⟨s, ks, true⟩))) from hrd)
      have hok := refB_ok hoK hsz
      have hcat : [1, 1, (s.size : Int)] ++ numsB s ++ List.replicate (12 - s.size) 0 ++ ks = refB ⟨s, ks, true⟩ := rfl
      clear ho t6 hrd hlb8 hC48 ho8 hn8 t8
      generalize refB ⟨s, ks, true⟩ = rb at *
      have HCAT := Lib.hid hcat
      have HOKB := Lib.hid hok
      clear hcat hok
      have HR7 := Lib.hid hr7
      have HR8 := Lib.hid hr8
      clear hr7 hr8
      go_wp2_with (with_reducible (show wpList _ _ _ (Oper.mk (some 44) (.call _) _ _ _ _ :: _) _ _); refine still ?_)
      refine list_exec rfl v7 w7 (exec_append2 _ _ (.tmp 42) (.tmp 43) 31 9 rfl _ _ _ _ _ rfl rfl HR7.out) ?_
      go_wp2_with (with_reducible (show wpList _ _ _ (Oper.mk (some 48) (.call _) _ _ _ _ :: _) _ _); refine still ?_)
      refine list_exec rfl v8 w8 (exec_append2 _ _ (.tmp 44) (.tmp 47) 31 3 rfl _ _ _ _ _ rfl rfl HR8.out) ?_
      go_wp2_with fail
      clear p1 f1
      refine HRD.out.mono ?_
      rintro e w9 ⟨Bx, rfl, hBx, hrx, hthx, _, t9⟩
      have hrx64 : ∀ i, i < 64 → w9.cell? ⟨Bx, i, none⟩ = some (.int .u8 ((sealB rb).getD i 0)) := fun i hi => by
        have := hrx i (.int .u8 ((sealB rb).getD i 0)) (by
          unfold secV
          rw [List.getElem?_map]
          have hl := sealB_len rb
          simp only [List.getD_eq_getElem?_getD]
          rw [List.getElem?_eq_getElem (by omega)]
          simp)
        rwa [Nat.zero_add] at this
      have HRX := Lib.hid hrx64
      have HT9 := Lib.hid (HT8.out.trans t9 (fun _ _ => id))
      have HK9 := Lib.hid (show w9.rangeAt W.heap.size 0 (keyV ks) from rangeAt_turn HK8.out t9 id)
      have HO9 := Lib.hid (own_turn HO8.out t9)
      have HL8 := Lib.hid (fun q hq => (HO8.out.lt q hq).2)
      clear hrx hthx t9 hrx64
      have hsrcK : Src w9.drew (.slice (some ⟨W.heap.size, 0, none⟩) 32 32) ks := .inl (.inr ⟨W.heap.size, 0, 32, by rw [hkl], by rw [hkl]; omega, fun i hi => HK9.out i _ (by
        unfold keyV
        rw [List.getElem?_map]
        simp only [List.getD_eq_getElem?_getD]
        rw [List.getElem?_eq_getElem hi]
        simp)⟩)
      obtain ⟨v10, w10, hr10, ho10, t10, _⟩ := run_append_src w9.drew 0 v8 (.slice (some ⟨W.heap.size, 0, none⟩) 32 32) 15 _ ks (own_drew HO9.out) hsrcK (Nat.zero_le _) (by rw [hkl]; omega)
      have HT10 := Lib.hid (show Turn (fun q => v8.ownBlock = some q) w9 w10 from (Turn.refl (fun q => v8.ownBlock = some q) w9).drew.trans t10 (fun _ _ h => h))
      have hx10 : ∀ i, i < 64 → w10.cell? ⟨Bx, i, none⟩ = some (.int .u8 ((sealB rb).getD i 0)) := fun i hi => (HT10.out.cell (p := ⟨Bx, i, none⟩) (World.block_lt_of_cell? _ _ (HRX.out i hi)) (fun hq => by have h9 : Bx < w8.heap.size := HL8.out _ hq; omega)).trans (HRX.out i hi)
      have HX10 := Lib.hid hx10
      have hsr10 : Src w10 v10 rb := by
        have e9 := Reads.of_owns (xs := ([1, 1, (s.size : Int)] ++ numsB s ++ List.replicate (12 - s.size) 0) ++ ks) (by
          have hl9 : (([1, 1, (s.size : Int)] ++ numsB s ++ List.replicate (12 - s.size) 0) ++ ks).length = 15 + ks.length := by simp [numsB_len]; omega
          rw [hl9]; exact ho10)
        rw [← HCAT.out]
        exact .inl e9
      have HSR := Lib.hid hsr10
      have HTW10 := Lib.hid (show Turn (fun _ => False) W w10 from HT9.out.trans HT10.out (fun q hq e => by have := HN8.out q e; have := HT4.out.size; omega))
      clear hsr10 t10 ho10 hsrcK hx10
      go_wp2_with fail
      refine wp_region_held_drew (S := fun wq => (∀ i, i < 64 → wq.cell? ⟨Bx, i, none⟩ = some (.int .u8 ((sealB rb).getD i 0))) ∧ True) (by kernel_rfl) ⟨HRX.out, trivial⟩ (fun hHeld => ?_)
      refine wpAnyH_take (i := 0) (v := .int .i64 0) rfl (by kernel_rfl) (by kernel_rfl) (by kernel_rfl) (fun _ _ _ h => h) (Or.inl ⟨by rfl, ?yq15⟩) (by assumption) ?rq15
      case yq15 => (intro wq hSw; (try simp only [List.getElem_toArray, List.getElem_cons_zero, List.getElem_cons_succ]); go_simp; (try with_reducible rfl); all_goals (try omega))
      case rq15 =>
      try simp only [Act.put, List.setIfInBounds_toArray, List.set_cons_zero, List.set_cons_succ, List.getElem_toArray, List.getElem_cons_zero, List.getElem_cons_succ]
      refine wpAnyH_take (i := 1) (v := .bool true) rfl (by kernel_rfl) (by kernel_rfl) (by kernel_rfl) (fun _ _ _ h => h) (Or.inl ⟨by rfl, ?yq16⟩) (by assumption) ?rq16
      case yq16 => (intro wq hSw; (try simp only [List.getElem_toArray, List.getElem_cons_zero, List.getElem_cons_succ]); go_simp; (try with_reducible rfl); all_goals (try omega))
      case rq16 =>
      try simp only [Act.put, List.setIfInBounds_toArray, List.set_cons_zero, List.set_cons_succ, List.getElem_toArray, List.getElem_cons_zero, List.getElem_cons_succ]
      refine wpAnyH_take (i := 2) (v := .bool true) rfl (by kernel_rfl) (by kernel_rfl) (by kernel_rfl) (fun _ _ _ h => h) (Or.inl ⟨by rfl, ?yq17⟩) (by assumption) ?rq17
      case yq17 => (intro wq hSw; (try simp only [List.getElem_toArray, List.getElem_cons_zero, List.getElem_cons_succ]); go_simp; (try with_reducible rfl); all_goals (try omega))
      case rq17 =>
      try simp only [Act.put, List.setIfInBounds_toArray, List.set_cons_zero, List.set_cons_succ, List.getElem_toArray, List.getElem_cons_zero, List.getElem_cons_succ]
      refine wpAnyH_take (i := 3) (v := .int .i64 0) rfl (by kernel_rfl) (by kernel_rfl) (by kernel_rfl) (fun _ _ _ h => h) (Or.inl ⟨by rfl, ?yq18⟩) (by assumption) ?rq18
      case yq18 => (intro wq hSw; (try simp only [List.getElem_toArray, List.getElem_cons_zero, List.getElem_cons_succ]); go_simp; (try with_reducible rfl); all_goals (try omega))
      case rq18 =>
      try simp only [Act.put, List.setIfInBounds_toArray, List.set_cons_zero, List.set_cons_succ, List.getElem_toArray, List.getElem_cons_zero, List.getElem_cons_succ]
      refine wpAnyH_take (i := 4) (v := .bool true) rfl (by kernel_rfl) (by kernel_rfl) (by kernel_rfl) (fun _ _ _ h => h) (Or.inl ⟨by rfl, ?yq19⟩) (by assumption) ?rq19
      case yq19 => (intro wq hSw; (try simp only [List.getElem_toArray, List.getElem_cons_zero, List.getElem_cons_succ]); go_simp; (try with_reducible rfl); all_goals (try omega))
      case rq19 =>
      try simp only [Act.put, List.setIfInBounds_toArray, List.set_cons_zero, List.set_cons_succ, List.getElem_toArray, List.getElem_cons_zero, List.getElem_cons_succ]
      refine wpAnyH_take (i := 5) (v := .bool true) rfl (by kernel_rfl) (by kernel_rfl) (by kernel_rfl) (fun _ _ _ h => h) (Or.inl ⟨by rfl, ?yq20⟩) (by assumption) ?rq20
      case yq20 => (intro wq hSw; (try simp only [List.getElem_toArray, List.getElem_cons_zero, List.getElem_cons_succ]); go_simp; (try with_reducible rfl); all_goals (try omega))
      case rq20 =>
      try simp only [Act.put, List.setIfInBounds_toArray, List.set_cons_zero, List.set_cons_succ, List.getElem_toArray, List.getElem_cons_zero, List.getElem_cons_succ]
      refine wpAnyH_take (i := 6) (v := .bool true) rfl (by kernel_rfl) (by kernel_rfl) (by kernel_rfl) (fun _ _ _ h => h) (Or.inl ⟨by rfl, ?yq21⟩) (by assumption) ?rq21
      case yq21 => (intro wq hSw; (try simp only [List.getElem_toArray, List.getElem_cons_zero, List.getElem_cons_succ]); go_simp; (try with_reducible rfl); all_goals (try omega))
      case rq21 =>
      try simp only [Act.put, List.setIfInBounds_toArray, List.set_cons_zero, List.set_cons_succ, List.getElem_toArray, List.getElem_cons_zero, List.getElem_cons_succ]
      refine wpAnyH_take (i := 7) (v := .slice (some ⟨Bx, 0, none⟩) 64 64) rfl (by kernel_rfl) (by kernel_rfl) (by kernel_rfl) (fun _ _ _ h => h) (Or.inl ⟨by rfl, ?yq22⟩) (by assumption) ?rq22
      case yq22 => (intro wq hSw; (try simp only [List.getElem_toArray, List.getElem_cons_zero, List.getElem_cons_succ]); go_simp; (try with_reducible rfl); all_goals (try omega))
      case rq22 =>
      try simp only [Act.put, List.setIfInBounds_toArray, List.set_cons_zero, List.set_cons_succ, List.getElem_toArray, List.getElem_cons_zero, List.getElem_cons_succ]
      refine wpAnyH_take (i := 8) (v := .string (strOfNums (sealB rb))) rfl (by kernel_rfl) (by kernel_rfl) (by kernel_rfl) (fun _ _ _ h => h) (Or.inl ⟨by rfl, ?yq23⟩) (by assumption) ?rq23
      case yq23 => (intro wq hSw; exact exec_conv31 _ _ _ rfl (.slice (some ⟨Bx, 0, none⟩) 64 64) _ wq rfl (.inr ⟨Bx, 0, 64, by rw [sealB_len], by rw [sealB_len]; omega, fun i hi => by rw [Nat.zero_add]; exact hSw.1 i (by rw [sealB_len] at hi; exact hi)⟩))
      case rq23 =>
      try simp only [Act.put, List.setIfInBounds_toArray, List.set_cons_zero, List.set_cons_succ, List.getElem_toArray, List.getElem_cons_zero, List.getElem_cons_succ]
      refine wpAnyH_take (i := 9) (v := v8) rfl (by kernel_rfl) (by kernel_rfl) (by kernel_rfl) (fun _ _ _ h => h) (Or.inl ⟨by rfl, ?yq24⟩) (by assumption) ?rq24
      case yq24 => (intro wq hSw; (try simp only [List.getElem_toArray, List.getElem_cons_zero, List.getElem_cons_succ]); go_simp; (try with_reducible rfl); all_goals (try omega))
      case rq24 =>
      try simp only [Act.put, List.setIfInBounds_toArray, List.set_cons_zero, List.set_cons_succ, List.getElem_toArray, List.getElem_cons_zero, List.getElem_cons_succ]
      refine wpAnyH_take (i := 10) (v := .slice (some ⟨W.heap.size, 0, none⟩) 32 32) rfl (by kernel_rfl) (by kernel_rfl) (by kernel_rfl) (fun _ _ _ h => h) (Or.inl ⟨by rfl, ?yq25⟩) (by assumption) ?rq25
      case yq25 => (intro wq hSw; (try simp only [List.getElem_toArray, List.getElem_cons_zero, List.getElem_cons_succ]); go_simp; (try with_reducible rfl); all_goals (try omega))
      case rq25 =>
      try simp only [Act.put, List.setIfInBounds_toArray, List.set_cons_zero, List.set_cons_succ, List.getElem_toArray, List.getElem_cons_zero, List.getElem_cons_succ]
      refine wpAnyH_ready (rs := [11]) (by kernel_rfl) (by simp) ?_
      refine AllReadyH.cons rfl (fun K hK => ?_) AllReadyH.nil
      rw [if_pos (by rfl)]
      refine wp_exec (exec_append2 _ _ (.tmp 63) (.tmp 64) 31 31 rfl _ _ _ _ _ rfl rfl hr10) ?_
      refine hK.out _ _ ⟨HX10.out, trivial⟩ (fun _ => ?_)
      clear hK K hr10
      try simp only [Act.put, List.setIfInBounds_toArray, List.set_cons_zero, List.set_cons_succ, List.getElem_toArray, List.getElem_cons_zero, List.getElem_cons_succ]
      refine wpAnyH_ready (rs := [12]) (by kernel_rfl) (by simp) ?_
      refine AllReadyH.cons rfl (fun K hK => ?_) AllReadyH.nil
      go_simp
      refine (refseal_any v10 rb w10 HSR.out HOKB.out).mono ?_
      rintro e w11 ⟨v11, rfl, hrd11, t11⟩
      have HTW11 := Lib.hid (HTW10.out.trans t11 (fun _ _ => id))
      have hcv11 := hrd11.conv
      have hx11 : ∀ i, i < 64 → w11.cell? ⟨Bx, i, none⟩ = some (.int .u8 ((sealB rb).getD i 0)) := fun i hi => (t11.cell (p := ⟨Bx, i, none⟩) (World.block_lt_of_cell? _ _ (HX10.out i hi)) id).trans (HX10.out i hi)
      have HX11 := Lib.hid hx11
      refine hK.out _ _ ⟨hx11, trivial⟩ (fun _ => ?_)
      clear hK K hx11 t11 hrd11
      try simp only [Act.put, List.setIfInBounds_toArray, List.set_cons_zero, List.set_cons_succ, List.getElem_toArray, List.getElem_cons_zero, List.getElem_cons_succ]
      refine wpAnyH_ready (rs := [13]) (by kernel_rfl) (by simp) ?_
      refine AllReadyH.cons rfl (fun K hK => ?_) AllReadyH.nil
      rw [if_pos (by rfl)]
      refine wp_exec (exec_conv31' _ _ (.tmp 66) rfl _ _ w11 rfl hcv11) ?_
      refine hK.out _ _ ⟨HX11.out, trivial⟩ (fun _ => ?_)
      clear hK K hcv11
      try simp only [Act.put, List.setIfInBounds_toArray, List.set_cons_zero, List.set_cons_succ, List.getElem_toArray, List.getElem_cons_zero, List.getElem_cons_succ]
      refine wpAnyH_take (i := 14) (v := .bool true) rfl (by kernel_rfl) (by kernel_rfl) (by kernel_rfl) (fun _ _ _ h => h) (Or.inl ⟨by rfl, ?yq26⟩) (by assumption) ?rq26
      case yq26 => (intro wq hSw; (try simp only [List.getElem_toArray, List.getElem_cons_zero, List.getElem_cons_succ]); go_simp; (try with_reducible rfl); all_goals (try omega))
      case rq26 =>
      try simp only [Act.put, List.setIfInBounds_toArray, List.set_cons_zero, List.set_cons_succ, List.getElem_toArray, List.getElem_cons_zero, List.getElem_cons_succ]
      refine wpAnyH_take (i := 15) (v := .bool true) rfl (by kernel_rfl) (by kernel_rfl) (by kernel_rfl) (fun _ _ _ h => h) (Or.inl ⟨by rfl, ?yq27⟩) (by assumption) ?rq27
      case yq27 => (intro wq hSw; (try simp only [List.getElem_toArray, List.getElem_cons_zero, List.getElem_cons_succ]); go_simp; (try with_reducible rfl); all_goals (try omega))
      case rq27 =>
      try simp only [Act.put, List.setIfInBounds_toArray, List.set_cons_zero, List.set_cons_succ, List.getElem_toArray, List.getElem_cons_zero, List.getElem_cons_succ]
      refine wpAnyH_take (i := 16) (v := .bool true) rfl (by kernel_rfl) (by kernel_rfl) (by kernel_rfl) (fun _ _ _ h => h) (Or.inl ⟨by rfl, ?yq28⟩) (by assumption) ?rq28
      case yq28 => (intro wq hSw; (try simp only [List.getElem_toArray, List.getElem_cons_zero, List.getElem_cons_succ]); go_simp; (try with_reducible rfl); all_goals (try omega))
      case rq28 =>
      try simp only [Act.put, List.setIfInBounds_toArray, List.set_cons_zero, List.set_cons_succ, List.getElem_toArray, List.getElem_cons_zero, List.getElem_cons_succ]
      refine wpAnyH_done (by kernel_rfl) ?_ _
      clear hHeld
      go_wp2_with fail
      go_ret
      exact ⟨rfl, HTW11.out⟩
end Go.Proofs.YtnenkclihgeacaaDoor
/- Own contracts: how the list beside a table goes. No statement is proved here. -/
namespace Go.Proofs.YtnenkclihgeacaaDoor
set_option maxRecDepth 100000
open Go.RowKit
set_option linter.unusedVariables false
set_option linter.unusedSimpArgs false

theorem getR_set {rs : List Rf} (i j : Nat) (r : Rf) (hi : i < rs.length) : (rs.set i r).getD j rf0 = if j = i then r else rs.getD j rf0 := by
  by_cases h : j = i
  · subst h; rw [if_pos rfl, getD_set_eq j r hi]
  · rw [if_neg h, getD_set_ne i j r h]
theorem good_set {rs : List Rf} (g : GoodR rs 12) (i : Nat) (hi : i < 12) (r : Rf) (hr : r = rf0 ∨ (rightB r.name = true ∧ ∀ j, j < 12 → j ≠ i → (rs.getD j rf0).name ≠ r.name)) : GoodR (rs.set i r) 12 := by
  have hl := g.len
  have hg := fun j => getR_set (rs := rs) i j r (by omega)
  refine ⟨by simpa using hl, fun j hj => ?_, fun j h1 h2 => by omega, fun p q hpq hq he => ?_⟩
  · rw [hg]
    split
    · rcases hr with h | h
      · exact .inl h
      · exact .inr h.1
    · exact g.each j hj
  · rw [hg, hg] at he
    rw [hg]
    by_cases e1 : q = i
    · subst e1
      rw [if_pos rfl, if_neg (by omega)] at he
      rw [if_pos rfl]
      rcases hr with h | h
      · rw [h]; rfl
      · exact absurd he (h.2 p (by omega) (by omega))
    · rw [if_neg e1] at he ⊢
      by_cases e2 : p = i
      · subst e2
        rw [if_pos rfl] at he
        rcases hr with h | h
        · rw [← he, h]; rfl
        · exact absurd he.symm (h.2 q hq e1)
      · rw [if_neg e2] at he
        exact g.uniq p q hpq hq he
theorem tells_set {C : List (List Int)} {rs : List Rf} (hl : rs.length = 12) (hC : 60 < C.length) (ht : Tells C rs) (i : Nat) (hi : i < 12) (r : Rf) (xs : List Int) (hx : pad64 xs = secR r) : Tells (putM C [(((48 + i : Nat) : Int), xs)]) (rs.set i r) := fun j hj => by
  rw [putM_one C (48 + i) xs (48 + j) (by omega), getR_set i j r (by omega)]
  by_cases h : j = i
  · subst h; rw [if_pos rfl, if_pos rfl]; exact hx
  · rw [if_neg (by omega), if_neg h]; exact ht j hj
theorem secR_rf0 : pad64 [] = secR rf0 := by unfold secR; rw [if_pos rfl]; rfl
theorem secR_seal {r : Rf} (h : r ≠ rf0) : pad64 (sealB (refB r)) = secR r := by unfold secR; rw [if_neg h]; exact pad64_full _ (sealB_len _)
def optR (x : Rf) : List Rf := if hasN x then [x] else []
/-- What a place has, and all else. -/
theorem filter_split (rs : List Rf) (i : Nat) (hi : i < rs.length) (r : Rf) : ∃ core, (rs.filter hasN).Perm (optR (rs.getD i rf0) ++ core) ∧ ((rs.set i r).filter hasN).Perm (optR r ++ core) := by
  have hg : rs.getD i rf0 = rs[i] := by simp [List.getD, hi]
  have e1 : rs = rs.take i ++ rs[i] :: rs.drop (i + 1) := by rw [← List.drop_eq_getElem_cons hi, List.take_append_drop]
  have e2 : rs.set i r = rs.take i ++ r :: rs.drop (i + 1) := by rw [List.set_eq_take_append_cons_drop, if_pos hi]
  have hp : ∀ (A B : List Rf) (x : Rf), ((A ++ x :: B).filter hasN).Perm (optR x ++ (A.filter hasN ++ B.filter hasN)) := fun A B x => by
    rw [List.filter_append, List.filter_cons]
    unfold optR
    split
    · exact List.perm_middle
    · exact List.Perm.refl _
  refine ⟨(rs.take i).filter hasN ++ (rs.drop (i + 1)).filter hasN, ?_, ?_⟩
  · rw [hg]
    have := hp (rs.take i) (rs.drop (i + 1)) rs[i]
    rw [← e1] at this
    exact this
  · rw [e2]
    exact hp _ _ _
theorem opt_rf0 : optR rf0 = [] := by unfold optR; rw [if_neg (by decide)]
theorem opt_has {x : Rf} (h : hasN x = true) : optR x = [x] := by unfold optR; rw [if_pos h]
theorem has_right {x : Rf} (h : rightB x.name = true) : hasN x = true := by
  unfold hasN
  rw [decide_eq_false (right_ne h)]
  rfl
/-- A ref is put in, by its name. -/
theorem Beside.put {rs l : List Rf} (h : Beside rs l) (hl : rs.length = 12) (i : Nat) (hi : i < 12) (h0 : rs.getD i rf0 = rf0) (r : Rf) (hr : hasN r = true) (k : Nat) (hk : k ≤ l.length) (hlo : ∀ x ∈ l.take k, cmpR x r < 0) (hhi : ∀ x ∈ l.drop k, cmpR r x < 0) : Beside (rs.set i r) (l.take k ++ r :: l.drop k) := by
  obtain ⟨core, p1, p2⟩ := filter_split rs i (by omega) r
  rw [h0, opt_rf0, List.nil_append] at p1
  rw [opt_has hr] at p2
  refine ⟨?_, ?_⟩
  · refine List.Perm.trans List.perm_middle (List.Perm.trans ?_ p2.symm)
    rw [List.take_append_drop]
    exact List.Perm.cons r (h.perm.trans p1)
  · have hr0 := h.rise
    rw [← List.take_append_drop k l, List.pairwise_append] at hr0
    rw [List.pairwise_append]
    refine ⟨hr0.1, List.pairwise_cons.2 ⟨hhi, hr0.2.1⟩, fun x hx y hy => ?_⟩
    rcases List.mem_cons.1 hy with rfl | hy
    · exact hlo x hx
    · exact hr0.2.2 x hx y hy
theorem perm_split {l : List Rf} (p : Nat) (hp : p < l.length) : l.Perm (l.getD p rf0 :: (l.take p ++ l.drop (p + 1))) := by
  have hg : l.getD p rf0 = l[p] := by simp [List.getD, hp]
  rw [hg]
  conv => lhs; rw [← List.take_append_drop p l, List.drop_eq_getElem_cons hp]
  exact List.perm_middle
/-- A ref is dropped. -/
theorem Beside.cut {rs l : List Rf} (h : Beside rs l) (hl : rs.length = 12) (i : Nat) (hi : i < 12) (p : Nat) (hp : p < l.length) (he : l.getD p rf0 = rs.getD i rf0) (hh : hasN (rs.getD i rf0) = true) : Beside (rs.set i rf0) (l.take p ++ l.drop (p + 1)) := by
  obtain ⟨core, p1, p2⟩ := filter_split rs i (by omega) rf0
  rw [opt_has hh] at p1
  rw [opt_rf0, List.nil_append] at p2
  refine ⟨?_, ?_⟩
  · have q1 := (perm_split p hp).symm.trans (h.perm.trans p1)
    rw [he] at q1
    exact (List.Perm.cons_inv q1).trans p2.symm
  · have hr0 := h.rise
    rw [← List.take_append_drop p l, List.drop_eq_getElem_cons hp, List.pairwise_append] at hr0
    rw [List.pairwise_append]
    exact ⟨hr0.1, (List.pairwise_cons.1 hr0.2.1).2, fun x hx y hy => hr0.2.2 x hx y (List.mem_cons_of_mem _ hy)⟩
/-- A ref is moved. -/
theorem Beside.move {rs l : List Rf} (h : Beside rs l) (hl : rs.length = 12) (i : Nat) (hi : i < 12) (p : Nat) (hp : p < l.length) (he : l.getD p rf0 = rs.getD i rf0) (hh : hasN (rs.getD i rf0) = true) (r : Rf) (hn : r.name = (rs.getD i rf0).name) : Beside (rs.set i r) (l.set p r) := by
  obtain ⟨core, p1, p2⟩ := filter_split rs i (by omega) r
  have hr : hasN r = true := by unfold hasN at hh ⊢; rw [hn]; exact hh
  rw [opt_has hh] at p1
  rw [opt_has hr] at p2
  have e2 : l.set p r = l.take p ++ r :: l.drop (p + 1) := by rw [List.set_eq_take_append_cons_drop, if_pos hp]
  have hcm : ∀ y, cmpR r y = cmpR (l.getD p rf0) y ∧ cmpR y r = cmpR y (l.getD p rf0) := fun y => by unfold cmpR; rw [hn, he]; exact ⟨rfl, rfl⟩
  refine ⟨?_, ?_⟩
  · have q1 := (perm_split p hp).symm.trans (h.perm.trans p1)
    rw [he] at q1
    rw [e2]
    exact List.Perm.trans List.perm_middle (List.Perm.trans (List.Perm.cons r (List.Perm.cons_inv q1)) p2.symm)
  · have hg : l.getD p rf0 = l[p] := by simp [List.getD, hp]
    have hr0 := h.rise
    rw [← List.take_append_drop p l, List.drop_eq_getElem_cons hp, List.pairwise_append, List.pairwise_cons] at hr0
    rw [e2, List.pairwise_append, List.pairwise_cons]
    refine ⟨hr0.1, ⟨fun y hy => by rw [(hcm y).1, hg]; exact hr0.2.1.1 y hy, hr0.2.1.2⟩, fun x hx y hy => ?_⟩
    rcases List.mem_cons.1 hy with rfl | hy
    · rw [(hcm x).2, hg]; exact hr0.2.2 x hx _ List.mem_cons_self
    · exact hr0.2.2 x hx y (List.mem_cons_of_mem _ hy)
end Go.Proofs.YtnenkclihgeacaaDoor
