/- Own texts, packed: Q28. -/
import Derived.Test.YtboofamenpcnhaaGreatDoorV19
import Derived.Test.YtboofamenpcnhaaGreatDoorV07
import Derived.Test.YtboofamenpcnhaaGreatDoorV17
import Derived.Laws.CopyOwn
import Derived.RegionTactic
namespace Go.Proofs.YtboofamenpcnhaaGreatDoor
set_option maxRecDepth 100000
open Go.RowKit
set_option linter.unusedVariables false
set_option linter.unusedSimpArgs false
def FourPost (w : World) (n : Int) (e : Ending) (w' : World) : Prop :=
  e = .returned (.slice (some ⟨w.heap.size, 0, none⟩) 4 4) ∧ BytesAt w' w.heap.size 5 (fourB n) ∧ Turn (fun _ => False) w w'
set_option maxHeartbeats 800000 in
set_option maxRecDepth 100000 in
theorem four_anyC (n : Int) (w : World) : Calls Tryz.prog 85 #[.int .i64 n] w (FourPost w n) := by
  go_enter Tryz.func85, Tryz.ntmps85
  go_wp2_with fail
  go_ret
  exact ⟨rfl, heap_alloc_new w _, (Turn.refl _ w).alloc _⟩
end Go.Proofs.YtboofamenpcnhaaGreatDoor
namespace Go.Proofs.YtboofamenpcnhaaGreatDoor
set_option maxRecDepth 100000
open Go.RowKit
set_option linter.unusedVariables false
set_option linter.unusedSimpArgs false
section
variable {P : Program} {w w' : World}
theorem wpList_append_run {ops : Array Oper} {rest : List Oper} {o : Oper} {a : Act} {Q : Exit → Act → World → Prop} (hgd : o.guard = none) (s x : Operand) (t : TypeId)
    (ho : o.op = .call { callee := .builtin .append, args := #[s, x], argTypes := #[t, t] }) (v v2 v' : Value) (hs : a.eval s = v) (hx : a.eval x = v2)
    (hrun : (Builtin.append_ #[t, t] o.type #[v, v2]).run P w = .ok v' w') (h : wpList P ops Q rest (a.put o.dst v') w') : wpList P ops Q (o :: rest) a w :=
  wpList_plain hgd fun _ hK => by
    unfold Oper.wp execOp
    simp only [ho, resolve, invoke, builtin, Sem.run_bind, Sem.run_pure, Result.andThen_ok, List.map_toArray, List.map_cons, List.map_nil, hs, hx, hrun]
    exact hK _ _ h
end
theorem turn_setRow (w : World) (g : Nat) (cs : Array Value) : Turn (fun k => k = g) w (w.setRow g cs) :=
  ⟨rfl, rfl, rfl, by simp [World.setRow], fun k hk hn => setRow_other w g k cs hn⟩
/-- 'copy' of bytes over the head of a block. -/
theorem run_copy_bytes (w : World) (B dLen dCap : Nat) (ws : List Int) (hB : BytesAt w B 5 ws) (v : Value) (xs : List Int) (hv : Src w v xs) (hd : dLen ≤ ws.length) (ty : TypeId) :
    ∃ w', (Builtin.copy_ #[29, 29] ty #[.slice (some ⟨B, 0, none⟩) dLen dCap, v]).run Tryz.prog w = .ok (.int .i64 ((min xs.length dLen : Nat) : Int)) w' ∧
      BytesAt w' B 5 (xs.take dLen ++ ws.drop (min xs.length dLen)) ∧ Turn (fun k => k = B) w w' := by
  by_cases h0 : min xs.length dLen = 0
  · obtain ⟨a, c, rfl, _⟩ := src_any hv
    refine ⟨w, ?_, ?_, Turn.refl _ _⟩
    · rw [run_copy_none (P := Tryz.prog) w 29 29 ty 5 _ _ dLen dCap xs.length c Tryz.underlying29 info5s h0, h0]; rfl
    · rw [h0, List.drop_zero]
      have : xs.take dLen = [] := by
        rcases (show xs.length = 0 ∨ dLen = 0 by omega) with h | h
        · rw [List.eq_nil_of_length_eq_zero h]; simp
        · rw [h]; simp
      rw [this]; exact hB
  · obtain ⟨a, c, rfl, hc⟩ := src_any hv
    obtain ⟨hcap, g, o, rfl, hcell⟩ := hc (by omega)
    have hlen : ((xs.take dLen).map (Value.int .u8)).length = Nat.min xs.length dLen := by
      rw [List.length_map, List.length_take]; exact Nat.min_comm _ _
    have hrun := run_copy_row (P := Tryz.prog) w 29 29 ty 5 B 0 dLen dCap ⟨g, o, none⟩ xs.length c (ws.map (Value.int .u8)).toArray 5 ((xs.take dLen).map (Value.int .u8)) Tryz.underlying29 info5s hB hlen (by
      intro j u hj
      have hjl : j < (xs.take dLen).length := by have := (List.getElem?_eq_some_iff.1 hj).1; simpa using this
      have hj2 : j < xs.length := by simp at hjl; omega
      have hadd : (⟨g, o, none⟩ : Addr).add j = ⟨g, o + j, none⟩ := by unfold Addr.add; split <;> simp_all
      rw [hadd, hcell j hj2]
      have hj3 : j < dLen := by simp at hjl; omega
      simp [hj3, hj2] at hj; subst hj; simp [List.getD, hj2]) (by
      rw [hlen]; simp; show min xs.length dLen ≤ ws.length; omega) (ints_oneCell _ _)
    refine ⟨_, hrun.trans (by rw [hlen]; rfl), ?_, turn_setRow w B _⟩
    · have h1 := setRow_heap w B (ws.map (Value.int .u8)).toArray (((ws.map (Value.int .u8)).toArray.toList.take 0 ++ (xs.take dLen).map (Value.int .u8) ++ (ws.map (Value.int .u8)).toArray.toList.drop (0 + ((xs.take dLen).map (Value.int .u8)).length)).toArray) 5 (0, 0) hB
      rw [hlen] at h1
      unfold BytesAt
      rw [h1]
      simp only [List.take_zero, List.nil_append, Nat.zero_add, List.map_append, List.map_drop]
/-- 'append' of bytes where there is room. -/
theorem run_append_bytes (w : World) (B n cap : Nat) (ws : List Int) (hB : BytesAt w B 5 ws) (B2 m c : Nat) (ys : List Int) (hy : BytesAt w B2 5 ys) (hm : m = ys.length) (hroom : n + m ≤ cap) (hfit : n + m ≤ ws.length) (ty : TypeId) :
    ∃ w', (Builtin.append_ #[29, 29] ty #[.slice (some ⟨B, 0, none⟩) n cap, .slice (some ⟨B2, 0, none⟩) m c]).run Tryz.prog w = .ok (.slice (some ⟨B, 0, none⟩) (n + m) cap) w' ∧
      BytesAt w' B 5 (ws.take n ++ ys ++ ws.drop (n + m)) ∧ Turn (fun k => k = B) w w' := by
  obtain ⟨i0, hi, hz0, hz1, hz2⟩ := info_parts Tryz.info5
  subst hm
  have hrun := run_append_room (P := Tryz.prog) w 29 ty 5 i0 Tryz.underlying29 hi B n cap (ws.map (Value.int .u8)).toArray hB ⟨B2, 0, none⟩ ys.length c (ys.map (Value.int .u8)) (by rw [hz1]; simp) (by
    intro j u hj
    have hjl : j < ys.length := by have := (List.getElem?_eq_some_iff.1 hj).1; simpa using this
    have hadd : (⟨B2, 0, none⟩ : Addr).add j = ⟨B2, j, none⟩ := by unfold Addr.add; split <;> simp_all
    rw [hadd, hy.cell j hjl]
    simp [hjl] at hj; subst hj; simp [List.getD, hjl]) (ints_oneCell _ _) hroom (by rw [hz1]; simp; omega)
  refine ⟨_, hrun, ?_, turn_setRow w B _⟩
  have h1 := setRow_heap w B (ws.map (Value.int .u8)).toArray (((ws.map (Value.int .u8)).toArray.toList.take (n * i0.size) ++ ys.map (Value.int .u8) ++ (ws.map (Value.int .u8)).toArray.toList.drop (n * i0.size + (ys.map (Value.int .u8)).length)).toArray) 5 (0, 0) hB
  unfold BytesAt
  rw [h1, hz1]
  simp only [Nat.mul_one, List.length_map, List.map_append, List.map_take, List.map_drop]
theorem BytesAt.reads_take {w : World} {B : Nat} {ws : List Int} (h : BytesAt w B 5 ws) (n c : Nat) (hn : n ≤ ws.length) (hc : n ≤ c) : Reads w (.slice (some ⟨B, 0, none⟩) n c) (ws.take n) := by
  have hl : (ws.take n).length = n := by simp; omega
  refine .inr ⟨B, 0, c, by rw [hl], by rw [hl]; exact hc, fun i hi => ?_⟩
  rw [hl] at hi
  rw [Nat.zero_add, h.cell i (by omega)]
  simp [List.getD, hi]
/-- The bytes of a sector ahead of its sum; a sealed sector. -/
def padB (xs : List Int) : List Int := xs.take 60 ++ List.replicate (60 - xs.length) 0
theorem padB_len (xs : List Int) : (padB xs).length = 60 := by simp [padB]; omega
theorem padB_ok (xs : List Int) (hx : BytesOk xs) : BytesOk (padB xs) := by
  intro x h
  rcases List.mem_append.1 h with h | h
  · exact hx x (List.mem_of_mem_take h)
  · have := List.eq_of_mem_replicate h; omega
def sealB (xs : List Int) : List Int := padB xs ++ fourB (sumB (padB xs))
theorem sealB_len (xs : List Int) : (sealB xs).length = 64 := by simp [sealB, padB_len, fourB]
theorem sealB_ok (xs : List Int) (hx : BytesOk xs) : BytesOk (sealB xs) := by
  intro x h
  rcases List.mem_append.1 h with h | h
  · exact padB_ok xs hx x h
  · exact fourB_ok _ x h
theorem sumB_range (xs : List Int) (hx : BytesOk xs) : 0 ≤ sumB xs ∧ sumB xs < 4294967296 := by
  have := reg_lt (s := 4294967295) (by omega) hx
  unfold sumB; omega
def SealPost (w : World) (xs : List Int) (e : Ending) (w' : World) : Prop :=
  e = .returned (.slice (some ⟨w.heap.size, 0, none⟩) 64 64) ∧ BytesAt w' w.heap.size 5 (sealB xs) ∧ Turn (fun _ => False) w w'
set_option maxHeartbeats 1600000 in
set_option maxRecDepth 100000 in
theorem seal_any (v : Value) (xs : List Int) (w : World) (hv : Src w v xs) (hx : BytesOk xs) (ht : Tab w) :
    Calls Tryz.prog 84 #[v] w (SealPost w xs) := by
  have hmk : (Instr.makeSlice 29 (.int .i64 60) (.int .i64 64)).run Tryz.prog w = .ok (.slice (some ⟨w.heap.size, 0, none⟩) 60 64) (w.alloc (.cells (Array.replicate 64 (.int .u8 0)) 5)) := run_make_bytes 60 64 (by omega) (by omega) w
  have hB1 := made_at w 64
  have T1 := (Turn.refl (fun _ => False) w).alloc (.cells (Array.replicate 64 (.int .u8 0)) 5)
  have hv1 := hv.turn T1 (fun _ _ => id)
  generalize w.alloc (.cells (Array.replicate 64 (.int .u8 0)) 5) = w1 at hmk hB1 T1 hv1
  obtain ⟨w2, hcp, hB2, t2⟩ := run_copy_bytes w1 w.heap.size 60 64 _ hB1 v xs hv1 (by simp) 3
  have e2 : xs.take 60 ++ (List.replicate 64 (0 : Int)).drop (min xs.length 60) = padB xs ++ List.replicate 4 0 := by
    unfold padB
    rw [List.drop_replicate, List.append_assoc, List.replicate_append_replicate]
    congr 2; omega
  rw [e2] at hB2
  have T2 := T1.trans t2 (fun k hk h => by omega)
  have hR2 := hB2.reads_take 60 64 (by simp [padB_len]) (by omega)
  rw [List.take_left' (padB_len xs)] at hR2
  have ht2 := ht.turn T2
  have HX := Lib.hid hx
  clear hB1 t2 hv1 T1 hv ht hx e2
  have HB2 := Lib.hid hB2
  have HR2 := Lib.hid hR2
  have HT2 := Lib.hid ht2
  clear hB2 hR2 ht2
  go_enter Tryz.func84, Tryz.ntmps84
  go_wp2_with (at_builtin; refine wpList_copy_run rfl (.tmp 5) (.tmp 6) 29 rfl _ _ _ rfl rfl hcp ?_)
  refine (of_any _ (padB xs) w2 (.inl HR2.out) (padB_ok xs HX.out) HT2.out (by rw [padB_len]; omega)).mono ?_
  rintro e w3 ⟨rfl, rfl⟩
  have hr := sumB_range (padB xs) (padB_ok xs HX.out)
  obtain ⟨sm, hsm⟩ : ∃ sm, sumB (padB xs) = sm := ⟨_, rfl⟩
  rw [hsm] at hr ⊢
  have HSM := Lib.hid hsm
  clear hsm
  go_wp2_with fail
  refine (four_anyC sm w3).mono ?_
  rintro e w4 ⟨rfl, b4, t4⟩
  have hB4 := HB2.out.turn t4 id
  have hs3 := T2.size
  have T4 := T2.trans t4 (fun _ _ => id)
  obtain ⟨w5, hap, hB5, t5⟩ := run_append_bytes w4 w.heap.size 60 64 _ hB4 w3.heap.size 4 4 _ b4 rfl (by omega) (by simp [padB_len]) 29
  have T5 := T4.trans t5 (fun k hk h => by omega)
  have e5 : (padB xs ++ List.replicate 4 (0 : Int)).take 60 ++ fourB sm ++ (padB xs ++ List.replicate 4 0).drop (60 + 4) = sealB xs := by
    rw [List.take_left' (padB_len xs), List.drop_eq_nil_of_le (by simp [padB_len]), List.append_nil, sealB, HSM.out]
  rw [e5] at hB5
  clear hB4 T4 t5 b4 t4 e5
  go_wp2_with (at_builtin; refine wpList_append_run rfl (.tmp 8) (.tmp 12) 29 rfl _ _ _ rfl rfl hap ?_)
  go_ret
  exact ⟨rfl, hB5, T5⟩
end Go.Proofs.YtboofamenpcnhaaGreatDoor
