/- Own texts, packed: CNumbers, CSeal, CSeals. -/
import Derived.Test.YtnenkclihgeacaaDoorP04
import Derived.Test.YtnenkclihgeacaaDoorP12
import Derived.Test.YtnenkclihgeacaaDoorP02
import Derived.Laws.CopyOwn
import Derived.RegionTactic
/- Own contracts: numbers of four bytes, and back; the walk of CheckNumbers. -/
namespace Go.Proofs.YtnenkclihgeacaaDoor
set_option maxRecDepth 100000
open Go.RowKit
set_option linter.unusedVariables false
set_option linter.unusedSimpArgs false

def FourPost (w : World) (n : Int) (e : Ending) (w' : World) : Prop :=
  e = .returned (.slice (some ⟨w.heap.size, 0, none⟩) 4 4) ∧ BytesAt w' w.heap.size 5 (fourB n) ∧ Turn (fun _ => False) w w'

set_option maxHeartbeats 800000 in
set_option maxRecDepth 100000 in
theorem four_anyC (n : Int) (w : World) : Calls Tryd.prog 72 #[.int .i64 n] w (FourPost w n) := by
  go_enter Tryd.func72, Tryd.ntmps72
  go_wp2_with fail
  go_ret
  exact ⟨rfl, heap_alloc_new w _, (Turn.refl _ w).alloc _⟩
set_option maxHeartbeats 800000 in
set_option maxRecDepth 100000 in
theorem reffour_any (n : Int) (h0 : 0 ≤ n) (w : World) : Calls Tryd.prog 51 #[.int .u32 n] w (FourPost w n) := by
  have e1 : n.tdiv 256 = n / 256 := Int.tdiv_eq_ediv_of_nonneg h0
  have e2 : n.tdiv 65536 = n / 65536 := Int.tdiv_eq_ediv_of_nonneg h0
  have e3 : n.tdiv 16777216 = n / 16777216 := Int.tdiv_eq_ediv_of_nonneg h0
  go_enter Tryd.func51, Tryd.ntmps51
  go_wp2_with fail
  go_ret
  exact ⟨rfl, heap_alloc_new w _, (Turn.refl _ w).alloc _⟩

/-- The same number, the highest byte first. -/
def tailN (xs : List Int) : Nat → Nat
  | 0 => 0
  | k + 1 => tailN xs k * 256 + (xs.getD (3 - k) 0).toNat
theorem tail_num (xs : List Int) : tailN xs 4 = numK xs 4 := by
  simp only [tailN, numK]; simp; omega
theorem tail_lt (xs : List Int) (hx : BytesOk xs) : ∀ k, tailN xs k < 256 ^ k := by
  intro k
  induction k with
  | zero => simp [tailN]
  | succ k ih =>
    have hb : (xs.getD (3 - k) 0).toNat < 256 := by
      by_cases h : 3 - k < xs.length
      · have hm : xs.getD (3 - k) 0 ∈ xs := by simp [List.getD, h]
        have := hx _ hm
        omega
      · simp [List.getD, List.getElem?_eq_none (show xs.length ≤ 3 - k by omega)]
    rw [tailN, Nat.pow_succ]
    omega

end Go.Proofs.YtnenkclihgeacaaDoor
/- Own contracts: a sealed sector, by the program and by definition. No statement is proved here. -/
namespace Go.Proofs.YtnenkclihgeacaaDoor
set_option maxRecDepth 100000
open Go.RowKit
set_option linter.unusedVariables false
set_option linter.unusedSimpArgs false

section
variable {P : Program} {w w' : World}
theorem wpList_append_run {ops : Array Oper} {rest : List Oper} {o : Oper} {a : Act} {Q : Exit → Act → World → Prop} (hgd : o.guard = none) (s x : Operand) (t : TypeId)
    (ho : o.op = .call { callee := .builtin .append, args := #[s, x], argTypes := #[t, t] }) (v v2 v' : Value) (hs : a.eval s = v) (hx : a.eval x = v2)
    (hrun : (Builtin.append_ #[t, t] o.type #[v, v2]).run P w = .ok v' w') (h : wpList P ops Q rest (a.put o.dst v') w') : wpList P ops Q (o :: rest) a w :=
  wpList_plain hgd fun _ hK => by
    unfold Oper.wp execOp
    simp only [ho, resolve, invoke, builtin, Sem.run_bind, Sem.run_pure, Result.andThen_ok, List.map_toArray, List.map_cons, List.map_nil, hs, hx, hrun]
    exact hK _ _ h
end

theorem turn_setRow (w : World) (g : Nat) (cs : Array Value) : Turn (fun k => k = g) w (w.setRow g cs) :=
  ⟨rfl, rfl, rfl, by simp [World.setRow], fun k hk hn => setRow_other w g k cs hn⟩
/-- 'copy' of bytes over the head of a block. -/
theorem run_copy_bytes (w : World) (B dLen dCap : Nat) (ws : List Int) (hB : BytesAt w B 5 ws) (v : Value) (xs : List Int) (hv : Src w v xs) (hd : dLen ≤ ws.length) (ty : TypeId) :
    ∃ w', (Builtin.copy_ #[31, 31] ty #[.slice (some ⟨B, 0, none⟩) dLen dCap, v]).run Tryd.prog w = .ok (.int .i64 ((min xs.length dLen : Nat) : Int)) w' ∧
      BytesAt w' B 5 (xs.take dLen ++ ws.drop (min xs.length dLen)) ∧ Turn (fun k => k = B) w w' := by
  by_cases h0 : min xs.length dLen = 0
  · obtain ⟨a, c, rfl, _⟩ := src_any hv
    refine ⟨w, ?_, ?_, Turn.refl _ _⟩
    · rw [run_copy_none (P := Tryd.prog) w 31 31 ty 5 _ _ dLen dCap xs.length c Tryd.underlying31 info5s h0, h0]; rfl
    · rw [h0, List.drop_zero]
      have : xs.take dLen = [] := by
        rcases (show xs.length = 0 ∨ dLen = 0 by omega) with h | h
        · rw [List.eq_nil_of_length_eq_zero h]; simp
        · rw [h]; simp
      rw [this]; exact hB
  · obtain ⟨a, c, rfl, hc⟩ := src_any hv
    obtain ⟨hcap, g, o, rfl, hcell⟩ := hc (by omega)
    have hlen : ((xs.take dLen).map (Value.int .u8)).length = Nat.min xs.length dLen := by
      rw [List.length_map, List.length_take]; exact Nat.min_comm _ _
    have hrun := run_copy_row (P := Tryd.prog) w 31 31 ty 5 B 0 dLen dCap ⟨g, o, none⟩ xs.length c (ws.map (Value.int .u8)).toArray 5 ((xs.take dLen).map (Value.int .u8)) Tryd.underlying31 info5s hB hlen (by
      intro j u hj
      have hjl : j < (xs.take dLen).length := by have := (List.getElem?_eq_some_iff.1 hj).1; simpa using this
      have hj2 : j < xs.length := by simp at hjl; omega
      have hadd : (⟨g, o, none⟩ : Addr).add j = ⟨g, o + j, none⟩ := by unfold Addr.add; split <;> simp_all
      rw [hadd, hcell j hj2]
      have hj3 : j < dLen := by simp at hjl; omega
      simp [hj3, hj2] at hj; subst hj; simp [List.getD, hj2]) (by
      rw [hlen]; simp; show min xs.length dLen ≤ ws.length; omega) (ints_oneCell _ _)
    refine ⟨_, hrun.trans (by rw [hlen]; rfl), ?_, turn_setRow w B _⟩
    · have h1 := setRow_heap w B (ws.map (Value.int .u8)).toArray (((ws.map (Value.int .u8)).toArray.toList.take 0 ++ (xs.take dLen).map (Value.int .u8) ++ (ws.map (Value.int .u8)).toArray.toList.drop (0 + ((xs.take dLen).map (Value.int .u8)).length)).toArray) 5 (0, 0) hB
      rw [hlen] at h1
      unfold BytesAt
      rw [h1]
      simp only [List.take_zero, List.nil_append, Nat.zero_add, List.map_append, List.map_drop]

/-- 'append' of bytes where there is room. -/
theorem run_append_bytes (w : World) (B n cap : Nat) (ws : List Int) (hB : BytesAt w B 5 ws) (B2 m c : Nat) (ys : List Int) (hy : BytesAt w B2 5 ys) (hm : m = ys.length) (hroom : n + m ≤ cap) (hfit : n + m ≤ ws.length) (ty : TypeId) :
    ∃ w', (Builtin.append_ #[31, 31] ty #[.slice (some ⟨B, 0, none⟩) n cap, .slice (some ⟨B2, 0, none⟩) m c]).run Tryd.prog w = .ok (.slice (some ⟨B, 0, none⟩) (n + m) cap) w' ∧
      BytesAt w' B 5 (ws.take n ++ ys ++ ws.drop (n + m)) ∧ Turn (fun k => k = B) w w' := by
  obtain ⟨i0, hi, hz0, hz1, hz2⟩ := info_parts Tryd.info5
  subst hm
  have hrun := run_append_room (P := Tryd.prog) w 31 ty 5 i0 Tryd.underlying31 hi B n cap (ws.map (Value.int .u8)).toArray hB ⟨B2, 0, none⟩ ys.length c (ys.map (Value.int .u8)) (by rw [hz1]; simp) (by
    intro j u hj
    have hjl : j < ys.length := by have := (List.getElem?_eq_some_iff.1 hj).1; simpa using this
    have hadd : (⟨B2, 0, none⟩ : Addr).add j = ⟨B2, j, none⟩ := by unfold Addr.add; split <;> simp_all
    rw [hadd, hy.cell j hjl]
    simp [hjl] at hj; subst hj; simp [List.getD, hjl]) (ints_oneCell _ _) hroom (by rw [hz1]; simp; omega)
  refine ⟨_, hrun, ?_, turn_setRow w B _⟩
  have h1 := setRow_heap w B (ws.map (Value.int .u8)).toArray (((ws.map (Value.int .u8)).toArray.toList.take (n * i0.size) ++ ys.map (Value.int .u8) ++ (ws.map (Value.int .u8)).toArray.toList.drop (n * i0.size + (ys.map (Value.int .u8)).length)).toArray) 5 (0, 0) hB
  unfold BytesAt
  rw [h1, hz1]
  simp only [Nat.mul_one, List.length_map, List.map_append, List.map_take, List.map_drop]
theorem BytesAt.reads_take {w : World} {B : Nat} {ws : List Int} (h : BytesAt w B 5 ws) (n c : Nat) (hn : n ≤ ws.length) (hc : n ≤ c) : Reads w (.slice (some ⟨B, 0, none⟩) n c) (ws.take n) := by
  have hl : (ws.take n).length = n := by simp; omega
  refine .inr ⟨B, 0, c, by rw [hl], by rw [hl]; exact hc, fun i hi => ?_⟩
  rw [hl] at hi
  rw [Nat.zero_add, h.cell i (by omega)]
  simp [List.getD, hi]

/-- The bytes of a sector ahead of its sum; a sealed sector. -/
def padB (xs : List Int) : List Int := xs.take 60 ++ List.replicate (60 - xs.length) 0
theorem padB_len (xs : List Int) : (padB xs).length = 60 := by simp [padB]; omega
theorem padB_ok (xs : List Int) (hx : BytesOk xs) : BytesOk (padB xs) := by
  intro x h
  rcases List.mem_append.1 h with h | h
  · exact hx x (List.mem_of_mem_take h)
  · have := List.eq_of_mem_replicate h; omega
def sealB (xs : List Int) : List Int := padB xs ++ fourB (sumB (padB xs))
theorem sealB_len (xs : List Int) : (sealB xs).length = 64 := by simp [sealB, padB_len, fourB]
theorem sealB_ok (xs : List Int) (hx : BytesOk xs) : BytesOk (sealB xs) := by
  intro x h
  rcases List.mem_append.1 h with h | h
  · exact padB_ok xs hx x h
  · exact fourB_ok _ x h
theorem sumB_range (xs : List Int) (hx : BytesOk xs) : 0 ≤ sumB xs ∧ sumB xs < 4294967296 := by
  have := reg_lt (s := 4294967295) (by omega) hx
  unfold sumB; omega

def SealPost (w : World) (xs : List Int) (e : Ending) (w' : World) : Prop :=
  e = .returned (.slice (some ⟨w.heap.size, 0, none⟩) 64 64) ∧ BytesAt w' w.heap.size 5 (sealB xs) ∧ Turn (fun _ => False) w w'

set_option maxHeartbeats 1600000 in
set_option maxRecDepth 100000 in
theorem seal_any (v : Value) (xs : List Int) (w : World) (hv : Src w v xs) (hx : BytesOk xs) (ht : Tab w) :
    Calls Tryd.prog 60 #[v] w (SealPost w xs) := by
  have hmk : (Instr.makeSlice 31 (.int .i64 60) (.int .i64 64)).run Tryd.prog w = .ok (.slice (some ⟨w.heap.size, 0, none⟩) 60 64) (w.alloc (.cells (Array.replicate 64 (.int .u8 0)) 5)) := run_make_bytes 60 64 (by omega) (by omega) w
  have hB1 := made_at w 64
  have T1 := (Turn.refl (fun _ => False) w).alloc (.cells (Array.replicate 64 (.int .u8 0)) 5)
  have hv1 := hv.turn T1 (fun _ _ => id)
  generalize w.alloc (.cells (Array.replicate 64 (.int .u8 0)) 5) = w1 at hmk hB1 T1 hv1
  obtain ⟨w2, hcp, hB2, t2⟩ := run_copy_bytes w1 w.heap.size 60 64 _ hB1 v xs hv1 (by simp) 3
  have e2 : xs.take 60 ++ (List.replicate 64 (0 : Int)).drop (min xs.length 60) = padB xs ++ List.replicate 4 0 := by
    unfold padB
    rw [List.drop_replicate, List.append_assoc, List.replicate_append_replicate]
    congr 2; omega
  rw [e2] at hB2
  have T2 := T1.trans t2 (fun k hk h => by omega)
  have hR2 := hB2.reads_take 60 64 (by simp [padB_len]) (by omega)
  rw [List.take_left' (padB_len xs)] at hR2
  have ht2 := ht.turn T2
  have HX := Lib.hid hx
  clear hB1 t2 hv1 T1 hv ht hx e2
  have HB2 := Lib.hid hB2
  have HR2 := Lib.hid hR2
  have HT2 := Lib.hid ht2
  clear hB2 hR2 ht2
  go_enter Tryd.func60, Tryd.ntmps60
  go_wp2_with (at_builtin; refine wpList_copy_run rfl (.tmp 5) (.tmp 6) 31 rfl _ _ _ rfl rfl hcp ?_)
  refine (of_any _ (padB xs) w2 (.inl HR2.out) (padB_ok xs HX.out) HT2.out (by rw [padB_len]; omega)).mono ?_
  rintro e w3 ⟨rfl, rfl⟩
  have hr := sumB_range (padB xs) (padB_ok xs HX.out)
  obtain ⟨sm, hsm⟩ : ∃ sm, sumB (padB xs) = sm := ⟨_, rfl⟩
  rw [hsm] at hr ⊢
  have HSM := Lib.hid hsm
  clear hsm
  go_wp2_with fail
  refine (four_anyC sm w3).mono ?_
  rintro e w4 ⟨rfl, b4, t4⟩
  have hB4 := HB2.out.turn t4 id
  have hs3 := T2.size
  have T4 := T2.trans t4 (fun _ _ => id)
  obtain ⟨w5, hap, hB5, t5⟩ := run_append_bytes w4 w.heap.size 60 64 _ hB4 w3.heap.size 4 4 _ b4 rfl (by omega) (by simp [padB_len]) 31
  have T5 := T4.trans t5 (fun k hk h => by omega)
  have e5 : (padB xs ++ List.replicate 4 (0 : Int)).take 60 ++ fourB sm ++ (padB xs ++ List.replicate 4 0).drop (60 + 4) = sealB xs := by
    rw [List.take_left' (padB_len xs), List.drop_eq_nil_of_le (by simp [padB_len]), List.append_nil, sealB, HSM.out]
  rw [e5] at hB5
  clear hB4 T4 t5 b4 t4 e5
  go_wp2_with (at_builtin; refine wpList_append_run rfl (.tmp 8) (.tmp 12) 31 rfl _ _ _ rfl rfl hap ?_)
  go_ret
  exact ⟨rfl, hB5, T5⟩

def NewSeal (w : World) (xs : List Int) (e : Ending) (w' : World) : Prop :=
  ∃ v', e = .returned v' ∧ Reads w' v' (sealB xs) ∧ Turn (fun _ => False) w w'

theorem own_sliceC {w : World} {base : Nat} {v : Value} {n : Nat} {xs : List Value} (h : w.ownsRow base 5 1 v n xs) : ∃ a c, v = .slice a n c := by
  rcases h.2 with ⟨rfl, h0⟩ | ⟨g, cap, cur, rfl, _⟩
  · subst h0; exact ⟨_, _, rfl⟩
  · exact ⟨_, _, rfl⟩
/-- What is ahead of the sum, up to k. -/
def padK (xs : List Int) (k : Nat) : List Int := (padB xs).take k
theorem padK_len (xs : List Int) (k : Nat) (h : k ≤ 60) : (padK xs k).length = k := by simp [padK, padB_len]; omega
theorem padK_succ (xs : List Int) (k : Nat) (h : k < 60) : padK xs (k + 1) = padK xs k ++ [(padB xs).getD k 0] := take_succ_getD _ _ (by rw [padB_len]; exact h)
theorem padB_in (xs : List Int) (k : Nat) (h : k < 60) (hk : k < xs.length) : (padB xs).getD k 0 = xs.getD k 0 := by
  unfold padB
  rw [List.getD_eq_getElem?_getD, List.getElem?_append_left (by simp; omega)]
  simp [List.getD, h]
theorem padB_out (xs : List Int) (k : Nat) (h : k < 60) (hk : ¬ k < xs.length) : (padB xs).getD k 0 = 0 := by
  unfold padB
  rw [List.getD_eq_getElem?_getD, List.getElem?_append_right (by simp; omega), List.getElem?_replicate]
  split <;> rfl

set_option maxHeartbeats 1600000 in
set_option maxRecDepth 100000 in
theorem refseal_any (v : Value) (xs : List Int) (w : World) (hv : Src w v xs) (hx : BytesOk xs) :
    Calls Tryd.prog 24 #[v] w (NewSeal w xs) := by
  obtain ⟨i0, hi, hz0, hz1, hz2⟩ := info_parts Tryd.info5
  obtain ⟨a, c, rfl, q⟩ := src_any hv
  have Q := Lib.hid q
  have HX := Lib.hid hx
  clear hv hx q
  obtain ⟨L, hL⟩ : ∃ L, xs.length = L := ⟨_, rfl⟩
  simp only [hL]
  have HL := Lib.hid hL
  clear hL
  go_enter Tryd.func24, Tryd.ntmps24
  go_wp2_with fail
  go_loopw [3, 4] (fun sv iv wr => ∃ (k : Nat), k ≤ 60 ∧ iv = .int .i64 (k : Int) ∧ wr.ownsRow w.heap.size 5 1 sv k ((padK xs k).map (Value.int .u8)) ∧ Turn (fun _ => False) w wr) (fun _ i _ => 60 - (intOf i).toNat)
  case atStart => exact ⟨0, Nat.zero_le _, rfl, by simpa [padK] using World.ownsRow_nil _ _ _ _, Turn.refl _ _⟩
  case round =>
    obtain ⟨k, hk, rfl, ho, hT⟩ := hrel
    obtain ⟨sa, sc, rfl⟩ := own_sliceC ho
    have hsz := hT.size
    by_cases hlt : k < 60
    · have hstep := padK_succ xs k hlt
      have hk60 : decide ((k : Int) < 60) = true := by simp; omega
      by_cases hin : k < L
      · obtain ⟨hcap, g, o, rfl, hcell⟩ := Q.out (by rw [HL.out]; omega)
        have hcl0 := hcell k (by rw [HL.out]; omega)
        have hcl := (hT.cell (p := ⟨g, o + k, none⟩) (World.block_lt_of_cell? w _ hcl0) id).trans hcl0
        rw [padB_in xs k hlt (by rw [HL.out]; exact hin)] at hstep
        rw [HL.out] at hcap
        generalize xs.getD k 0 = x at hcl hstep
        have HS := Lib.hid hstep
        have hdl : decide ((k : Int) < (L : Int)) = true := by simp; omega
        clear hcell hcl0 hstep
        go_wp2_with (at_builtin; refine wpList_append_where _ rfl (.tmp 13) (.tmp 18) 31 rfl w.heap.size 5 i0 (.int .u8 0) 1 1 Tryd.underlying31 hi hz0 hz1 hz2 rfl (by decide) _ k ((padK xs k).map (Value.int .u8)) rfl (ho.alloc _) ⟨wr.heap.size, 0, none⟩ 1 1 [.int .u8 x] rfl rfl (one_cell _ _) ?d2 ?d3 ?d4 ?d5 ?_)
        case d2 => intro u hu; simp at hu; subst hu; rfl
        case d3 => unfold maxLen; omega
        case d4 => omega
        case d5 => simp; omega
        intro v3 w3 ho3 hg3 _ _
        have t3 := (hT.alloc (.cells #[.int .u8 x] 5)).grown hg3 (fun k h hk => by have := (ho.lt k h).1; omega)
        clear ho hg3
        go_wp2
        go_roundw
        case rel => exact ⟨k + 1, by omega, by go_num, by rw [HS.out]; simpa using ho3, t3⟩
        case measure => simp [intOf]; omega
      · rw [padB_out xs k hlt (by rw [HL.out]; exact hin)] at hstep
        have HS := Lib.hid hstep
        have hdl : decide ((k : Int) < (L : Int)) = false := by simp; omega
        clear hstep
        go_wp2_with (at_builtin; refine wpList_append_where _ rfl (.tmp 20) (.tmp 21) 31 rfl w.heap.size 5 i0 (.int .u8 0) 1 1 Tryd.underlying31 hi hz0 hz1 hz2 rfl (by decide) _ k ((padK xs k).map (Value.int .u8)) rfl (ho.alloc _) ⟨wr.heap.size, 0, none⟩ 1 1 [.int .u8 0] rfl rfl (one_cell _ _) ?d2 ?d3 ?d4 ?d5 ?_)
        case d2 => intro u hu; simp at hu; subst hu; rfl
        case d3 => unfold maxLen; omega
        case d4 => omega
        case d5 => simp; omega
        intro v3 w3 ho3 hg3 _ _
        have t3 := (hT.alloc (.cells #[.int .u8 0] 5)).grown hg3 (fun k h hk => by have := (ho.lt k h).1; omega)
        clear ho hg3
        go_wp2
        go_roundw
        case rel => exact ⟨k + 1, by omega, by go_num, by rw [HS.out]; simpa using ho3, t3⟩
        case measure => simp [intOf]; omega
    · obtain rfl : k = 60 := by omega
      have hpk : padK xs 60 = padB xs := List.take_of_length_le (by rw [padB_len]; omega)
      rw [hpk] at ho
      have hR : Reads wr (.slice sa 60 sc) (padB xs) := Reads.of_owns (base := w.heap.size) (by rw [padB_len]; exact ho)
      have HR := Lib.hid hR
      have HO := Lib.hid ho
      clear hR ho hpk
      go_wp2_with fail
      refine (sum_any _ (padB xs) wr (.inl HR.out) (padB_ok xs HX.out) (by rw [padB_len]; omega)).mono ?_
      rintro e w3 ⟨rfl, rfl⟩
      have hr := sumB_range (padB xs) (padB_ok xs HX.out)
      obtain ⟨sm, hsm⟩ : ∃ sm, sumB (padB xs) = sm := ⟨_, rfl⟩
      rw [hsm] at hr ⊢
      have HSM := Lib.hid hsm
      clear hsm
      go_wp2_with fail
      refine (reffour_any sm hr.1 w3).mono ?_
      rintro e w4 ⟨rfl, b4, t4⟩
      have ho4 := t4.owns HO.out (fun _ _ => id)
      have T4 := hT.trans t4 (fun _ _ => id)
      have hs4 := T4.size
      have hs5 := t4.size
      generalize w3.heap.size = B4 at b4
      have hnew : ∀ (j : Nat) u, ((fourB sm).map (Value.int .u8))[j]? = some u → w4.cell? ((⟨B4, 0, none⟩ : Addr).add j) = some u := by
        intro j u hj
        have hjl : j < (fourB sm).length := by have := (List.getElem?_eq_some_iff.1 hj).1; simpa using this
        have hadd : (⟨B4, 0, none⟩ : Addr).add j = ⟨B4, j, none⟩ := by unfold Addr.add; split <;> simp_all
        rw [hadd, b4.cell j hjl]
        simp [hjl] at hj; subst hj; simp [List.getD, hjl]
      have HN := Lib.hid hnew
      clear hnew b4
      go_wp2_with (at_builtin; refine wpList_append_where _ rfl (.tmp 23) (.tmp 26) 31 rfl w.heap.size 5 i0 (.int .u8 0) 1 1 Tryd.underlying31 hi hz0 hz1 hz2 rfl (by decide) _ 60 ((padB xs).map (Value.int .u8)) rfl ho4 ⟨B4, 0, none⟩ 4 4 ((fourB sm).map (Value.int .u8)) rfl (by simp [fourB]) HN.out (ints_oneCell _ _) ?e3 ?e4 hs4 ?_)
      case e3 => unfold maxLen; omega
      case e4 => omega
      intro v5 w5 ho5 hg5 _ _
      have T5 := T4.grown hg5 (fun k h hk => by have := (ho4.lt k h).1; omega)
      clear ho4 hg5
      go_wp2
      go_ret
      refine ⟨_, rfl, Reads.of_owns (base := w.heap.size) ?_, T5⟩
      rw [sealB_len, sealB, List.map_append, HSM.out]
      exact ho5
end Go.Proofs.YtnenkclihgeacaaDoor
/- Own contracts: bytes that are equal; a sector that is opened; the walk of CheckSeals. -/
namespace Go.Proofs.YtnenkclihgeacaaDoor
set_option maxRecDepth 100000
open Go.RowKit
set_option linter.unusedVariables false
set_option linter.unusedSimpArgs false

def EqualPost (w : World) (xs ys : List Int) (e : Ending) (w' : World) : Prop := e = .returned (.bool (decide (xs = ys))) ∧ Turn (fun _ => False) w w'

theorem take_eq_step {xs ys : List Int} {k : Nat} (h : xs.take k = ys.take k) (h1 : k < xs.length) (h2 : k < ys.length) (e : xs.getD k 0 = ys.getD k 0) : xs.take (k + 1) = ys.take (k + 1) := by
  rw [take_succ_getD xs k h1, take_succ_getD ys k h2, h, e]

def OpenPostC (w : World) (xs : List Int) (e : Ending) (w' : World) : Prop :=
  Turn (fun _ => False) w w' ∧ ((xs = sealB xs ∧ ∃ v', e = .returned (.tuple #[v', .bool true]) ∧ Reads w' v' (xs.take 60)) ∨ (xs ≠ sealB xs ∧ e = .returned (.tuple #[.slice none 0 0, .bool false])))

theorem sealB_take (xs : List Int) : (sealB xs).take 60 = padB xs := List.take_left' (padB_len xs)
theorem padB_seal (xs : List Int) : padB (sealB xs) = padB xs := by
  unfold padB
  rw [show (60 - (sealB xs).length) = 0 by rw [sealB_len], List.replicate_zero, List.append_nil, sealB_take]; rfl
theorem seal_seal (xs : List Int) : sealB xs = sealB (sealB xs) := by
  have h : sealB (sealB xs) = padB (sealB xs) ++ fourB (sumB (padB (sealB xs))) := rfl
  rw [h, padB_seal]; rfl
theorem Reads.drew {w : World} {v : Value} {xs : List Int} (h : Reads w v xs) : Reads w.drew v xs := h.turn ((Turn.refl (fun _ => False) w).drew) (fun _ _ => id)

end Go.Proofs.YtnenkclihgeacaaDoor
